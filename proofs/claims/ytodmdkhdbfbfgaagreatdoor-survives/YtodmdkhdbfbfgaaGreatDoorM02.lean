/- Lemmas. -/
import Derived.Maps.OwnSet
import Derived.Maps.OwnOps
import Derived.Maps.Keyed
import Derived.Test.YtodmdkhdbfbfgaaGreatDoorM01
set_option linter.unusedVariables false
set_option linter.unusedSimpArgs false
set_option maxRecDepth 100000
set_option maxHeartbeats 8000000
namespace Go.Nt
abbrev Bs:=List UInt8
structure It where
 path:Bs
 dir:Bool
 data:Bs
 mode:Int
 time:Int
deriving DecidableEq,Inhabited
def split:Bs→List Bs
 | []=>[[]]
 | c :: cs=>if c=47 then [] :: split cs else
   match split cs with
   | []=>[[c]]
   | n :: ns=>(c :: n) :: ns
theorem qhg (p:Bs):split p≠[]:=by
 cases p with
 | nil=>simp [split]
 | cons c cs =>
   unfold split
   split
   ·simp
   split<;>simp
theorem qay (p:Bs):∃ n ns,split p=n :: ns:=by
 cases h:split p with
 | nil=>exact absurd h (qhg p)
 | cons n ns=>exact ⟨n,ns,rfl⟩
def key (c:UInt8):Nat:=if c=47 then 0 else c.toNat+1
theorem key_inj {a b:UInt8} (h:key a=key b):a=b:=by
 unfold key at h
 split at h<;>split at h
 ·simp_all
 ·omega
 ·omega
 exact UInt8.toNat_inj.1 (by omega)
def less:Bs→Bs→Bool
 | [],[]=>false
 | [],_ :: _=>true
 | _ :: _,[]=>false
 | a :: as1,b :: bs=>if a=b then less as1 bs else decide (key a<key b)
theorem qbU:∀ a,less a a=false
 | []=>rfl
 | a :: as1=>by simp [less,qbU as1]
theorem qaP:∀ a b,less a b=false→less b a=false→a=b
 | [],[],_,_=>rfl
 | [],_ :: _,h,_=>by simp [less] at h
 | _ :: _,[],_,h=>by simp [less] at h
 | a :: as1,b :: bs,h,h'=>by
   unfold less at h h';by_cases e:a=b
   ·subst e;simp at h h';rw [qaP as1 bs h h']
   rw [if_neg e] at h;rw [if_neg (fun x=>e x.symm)] at h';simp at h h';exact absurd (key_inj (by omega)) e
theorem qa1:∀ a b c,less a b=true→less b c=true→less a c=true
 | [],[],_,h,_=>by simp [less] at h
 | [],_ :: _,[],_,h=>by simp [less] at h
 | [],_ :: _,_ :: _,_,_=>by simp [less]
 | _ :: _,[],_,h,_=>by simp [less] at h
 | _ :: _,_ :: _,[],_,h=>by simp [less] at h
 | a :: as1,b :: bs,c :: cs,h,h'=>by
   unfold less at h h' ⊢;by_cases e:a=b
   ·subst e;rw [if_pos rfl] at h;by_cases e2:a=c
    ·subst e2;rw [if_pos rfl] at h' ⊢;exact qa1 as1 bs cs h h'
    rw [if_neg e2] at h' ⊢;exact h'
   rw [if_neg e] at h;by_cases e2:b=c
   ·subst e2;rw [if_neg e];exact h
   rw [if_neg e2] at h';simp at h h'
   have:a≠c:=fun x=>by subst x;omega
   rw [if_neg this];simp;omega
theorem qee {a b:Bs} (h:less a b=true):less b a=false:=by
 cases h':less b a with
 | false=>rfl
 | true=>have:=qa1 a b a h h';rw [qbU] at this;cases this
def ltS:Bs→Bs→Bool
 | [],[]=>false
 | [],_ :: _=>true
 | _ :: _,[]=>false
 | a :: as1,b :: bs=>if a=b then ltS as1 bs else decide (a.toNat<b.toNat)
def cmpS (a b:Bs):Int:=if ltS a b then -1 else if ltS b a then 1 else 0
def cmpN:List Bs→List Bs→Int
 | [],[]=>0
 | [],_ :: _ => -1
 | _ :: _,[]=>1
 | a :: as1,b :: bs=>if cmpS a b=0 then cmpN as1 bs else cmpS a b
theorem qa6:cmpS [] []=0:=by simp [cmpS,ltS]
theorem qcg (c:UInt8) (n:Bs):cmpS [] (c :: n) = -1:=by simp [cmpS,ltS]
theorem qcd (c:UInt8) (n:Bs):cmpS (c :: n) []=1:=by simp [cmpS,ltS]
theorem qkD (c:UInt8) (n m:Bs):cmpS (c :: n) (c :: m)=cmpS n m:=by simp [cmpS,ltS]
theorem qiC {x y:UInt8} (h:x≠y) (n m:Bs):cmpS (x :: n) (y :: m)=if x.toNat<y.toNat then -1 else 1:=by
 have h2:y≠x:=fun e=>h e.symm
 have h3:x.toNat≠y.toNat:=fun e=>h (UInt8.toNat_inj.1 e)
 simp only [cmpS,ltS,if_neg h,if_neg h2];by_cases hh:x.toNat<y.toNat
 ·simp [hh]
 have:y.toNat<x.toNat:=by omega
 simp [hh,this]
theorem qak (cs:Bs):split (47 :: cs)=[] :: split cs:=by simp [split]
theorem qal {c:UInt8} (h:c≠47) {cs:Bs} {n:Bs} {ns:List Bs} (e:split cs=n :: ns):split (c :: cs)=(c :: n) :: ns:=by
 simp [split,h,e]
theorem qdd:∀ a b:Bs,decide (cmpN (split a) (split b)<0)=less a b
 | [],[]=>by simp [split,cmpN,qa6,less]
 | [],c :: cs=>by
   obtain ⟨n,ns,e⟩:=qay cs;by_cases h:c=47
   ·subst h;rw [qak,e];simp [split,cmpN,qa6,less]
   rw [qal h e];simp [split,cmpN,qcg,less]
 | c :: cs,[]=>by
   obtain ⟨n,ns,e⟩:=qay cs;by_cases h:c=47
   ·subst h;rw [qak,e];simp [split,cmpN,qa6,less]
   rw [qal h e];simp [split,cmpN,qcd,less]
 | x :: as1,y :: bs=>by
   obtain ⟨n,ns,e1⟩:=qay as1;obtain ⟨m,ms,e2⟩:=qay bs;by_cases hx:x=47
   ·by_cases hy:y=47
    ·subst hx;subst hy;rw [qak,qak]
     have:=qdd as1 bs
     simp only [cmpN,qa6,if_pos,less];exact this
    subst hx;rw [qak,qal hy e2];have h1:(47:UInt8)≠y:=fun e=>hy e.symm
    simp [cmpN,qcg,less,h1,key,hy]
   by_cases hy:y=47
   ·subst hy;rw [qak,qal hx e1];simp [cmpN,qcd,less,hx,key]
   rw [qal hx e1,qal hy e2];by_cases e:x=y
   ·subst e
    have:=qdd as1 bs
    rw [e1,e2] at this;simp only [cmpN,qkD,less,if_pos] at this ⊢;exact this
   simp only [cmpN,qiC e,less,if_neg e,key,if_neg hx,if_neg hy];by_cases hh:x.toNat<y.toNat
   ·simp [hh]
   simp [hh]
def okName (n:Bs):Bool:=n≠[]&&n≠[46]&&n≠[46,46]&&decide (n.length≤20) && !n.contains 0
def okPath (p:Bs):Bool:=decide ((split p).length≤6)&&(split p).all okName
def par:Bs→Bs
 | []=>[]
 | c :: cs=>if cs.contains 47 then c :: par cs else []
theorem qhd {p:Bs} (h:∀ i,i<p.length→p.getD i 0≠47):par p=[]:=by
 cases p with
 | nil=>rfl
 | cons c cs =>
   unfold par;rw [if_neg];intro hc;obtain ⟨i,hi,he⟩:=List.getElem_of_mem (List.contains_iff_mem.1 hc)
   have:=h (i+1) (by simp;omega)
   simp [List.getD,hi] at this;exact this he
theorem qcU:∀ {p:Bs} {j:Nat},p.getD j 0=47→(∀ i,j<i→i<p.length→p.getD i 0≠47)→par p=p.take j
 | [],j,h,_=>by simp at h
 | c :: cs,0,_,h2=>by
   unfold par;rw [if_neg]
   ·rfl
   intro hc;obtain ⟨i,hi,he⟩:=List.getElem_of_mem (List.contains_iff_mem.1 hc)
   have:=h2 (i+1) (by omega) (by simp;omega)
   simp [List.getD,hi] at this;exact this he
 | c :: cs,j+1,h1,h2=>by
   unfold par;have h1':cs.getD j 0=47:=by simpa [List.getD] using h1
   have hj:j<cs.length:=by
    rcases Nat.lt_or_ge j cs.length with h | h
    ·exact h
    rw [List.getD,List.getElem?_eq_none h] at h1';cases h1'
   have hc:cs.contains 47=true:=by
    rw [List.contains_iff_mem]
    have:cs[j]=47:=by simpa [List.getD,hj] using h1'
    exact this ▸ List.getElem_mem hj
   rw [if_pos hc,qcU h1' (fun i hi hl => ?_)]
   ·rfl
   have:=h2 (i+1) (by omega) (by simp;omega)
   simpa [List.getD] using this
def okItem (x:It):Bool:=
 okPath x.path&&decide (x.data.length≤4000)&&(!x.dir||x.data.isEmpty)&&decide (0≤x.mode)&&decide (x.mode≤4095)&&decide (0≤x.time)&&decide (x.time≤2147483647)
def dirAt (l:List It) (p:Bs):Bool:=l.any fun y=>decide (y.path=p)&&y.dir
def isTree (l:List It):Bool:=
 decide (l.length≤60)&&l.all okItem&&decide ((l.map (·.path)).Nodup)&&l.all fun x=>decide (par x.path=[])||dirAt l (par x.path)
def qab (l:List It):List It:=l.mergeSort fun x y => !less y.path x.path
def qaN (l:List It) (p:Bs):Bool:=(List.range p.length).all fun i=>decide (p.getD i 0≠47)||dirAt l (p.take i)
theorem getD_take {p:Bs} {i j:Nat} (h:i<j):(p.take j).getD i 0=p.getD i 0:=by
 simp only [List.getD,List.getElem?_take];rw [if_pos h]
theorem qcs (p:Bs):(∀ i,i<p.length→p.getD i 0≠47)∨∃ j,j<p.length∧p.getD j 0=47∧∀ i,j<i→i<p.length→p.getD i 0≠47:=by
 have:∀ n,n≤p.length→(∀ i,i<n→p.getD i 0≠47)∨∃ j,j<n∧p.getD j 0=47∧∀ i,j<i→i<n→p.getD i 0≠47:=by
  intro n
  induction n with
  | zero=>exact fun _=>.inl fun i h=>absurd h (Nat.not_lt_zero _)
  | succ n ih =>
    intro hn;by_cases e:p.getD n 0=47
    ·exact .inr ⟨n,Nat.lt_succ_self n,e,fun i h1 h2=>absurd h1 (by omega)⟩
    rcases ih (by omega) with h | ⟨j,hj,hj1,hj2⟩
    ·refine .inl fun i hi => ?_
     rcases Nat.lt_succ_iff_lt_or_eq.1 hi with h' | rfl
     ·exact h i h'
     exact e
    refine .inr ⟨j,by omega,hj1,fun i h1 h2 => ?_⟩;rcases Nat.lt_succ_iff_lt_or_eq.1 h2 with h' | rfl
    ·exact hj2 i h1 h'
    exact e
 exact this p.length (Nat.le_refl _)
theorem qgS {p:Bs} (h:okPath p=true):p.getD 0 0≠47:=by
 intro e;cases p with
 | nil=>simp at e
 | cons c cs =>
   simp [List.getD] at e;subst e;unfold okPath at h;rw [qak] at h;simp [okName] at h
theorem qdF (l:List It) (hok:l.all okItem=true) :
 (l.all fun x=>decide (par x.path=[])||dirAt l (par x.path))=l.all fun x=>qaN l x.path:=by
 rw [Bool.eq_iff_iff]
 constructor
 ·intro h;have step:∀ n (x:It),x∈l→x.path.length=n→qaN l x.path=true:=by
   intro n
   induction n using Nat.strongRecOn with
   | ind n ih =>
     intro x hx hn;unfold qaN;rw [List.all_eq_true];intro i hi;have hi':i<x.path.length:=List.mem_range.1 hi;by_cases e:x.path.getD i 0=47
     ·rcases qcs x.path with hno | ⟨j,hj,hj1,hj2⟩
      ·exact absurd e (hno i hi')
      have hp:=qcU hj1 hj2;have hj0:j≠0:=by
       intro h0;subst h0
       have:=List.all_eq_true.1 hok x hx
       unfold okItem at this;simp only [Bool.and_eq_true] at this;exact qgS this.1.1.1.1.1.1 hj1
      have hx2:=List.all_eq_true.1 h x hx;have hpne:par x.path≠[]:=by
       rw [hp];intro hnil
       have:=congrArg List.length hnil
       rw [List.length_take,List.length_nil] at this;omega
      have hd:dirAt l (par x.path)=true:=by simpa [hpne] using hx2
      by_cases hij:i=j
      ·subst hij;rw [←hp];simp [hd]
      have hlt:i<j:=by
       rcases Nat.lt_or_ge i j with h' | h'
       ·exact h'
       exact absurd e (hj2 i (by omega) hi')
      unfold dirAt at hd;obtain ⟨y,hy,hyp⟩:=List.any_eq_true.1 hd;simp at hyp;have hyl:y.path.length=j:=by rw [hyp.1,hp,List.length_take];omega
      have hy2:=ih j (by omega) y hy hyl;unfold qaN at hy2
      have:=List.all_eq_true.1 hy2 i (List.mem_range.2 (by omega))
      rw [hyp.1,hp,getD_take hlt,List.take_take,Nat.min_eq_left (by omega)] at this;exact this
     have e':¬(x.path[i]?.getD 0=47):=by simpa [List.getD] using e
     simp [e']
  rw [List.all_eq_true];exact fun x hx=>step _ x hx rfl
 intro h;rw [List.all_eq_true];intro x hx;have hx2:=List.all_eq_true.1 h x hx;rcases qcs x.path with hno | ⟨j,hj,hj1,hj2⟩
 ·rw [qhd hno];simp
 rw [qcU hj1 hj2];unfold qaN at hx2
 have:=List.all_eq_true.1 hx2 j (List.mem_range.2 hj)
 rw [hj1] at this;simp at this;simp [this]
variable {u:Bs→Option Bs} {x:It} {e t:Bs} {l:List It}
def num:Bs→Nat
 | b=>b.foldl (fun n x=>n*256+x.toNat) 0
def enc:Nat→Nat→Bs
 | 0,_=>[]
 | k+1,n=>enc k (n/256)++[UInt8.ofNat n]
theorem qac:∀ k n,(enc k n).length=k
 | 0,_=>rfl
 | k+1,n=>by simp [enc,qac k]
theorem qeZ (b:Bs) (x:UInt8):num (b++[x])=num b*256+x.toNat:=by simp [num]
theorem qcC:∀ k n,n<256^k→num (enc k n)=n
 | 0,n,h=>by simp at h;subst h;rfl
 | k+1,n,h=>by
   rw [enc,qeZ,qcC k (n/256) (by rw [Nat.pow_succ] at h;omega),UInt8.toNat_ofNat'];omega
theorem qd1:∀ (b:Bs),num b<256^b.length:=by
 intro b;have h:∀ (l:Bs) (a:Nat),l.foldl (fun n x=>n*256+x.toNat) a<(a+1)*256^l.length:=by
  intro l
  induction l with
  | nil=>intro a;simp
  | cons x xs ih =>
    intro a
    have:=ih (a*256+x.toNat)
    simp only [List.foldl_cons,List.length_cons];refine Nat.lt_of_lt_of_le this ?_;rw [Nat.pow_succ,Nat.mul_comm (256^xs.length) 256,←Nat.mul_assoc];refine Nat.mul_le_mul_right _ ?_
    have:=x.toNat_lt
    omega
 have:=h b 0
 simpa [num] using this
abbrev Rd:=Bs × Bool
def tk (n:Nat) (r:Rd):Bs × Rd:=if r.1.length<n then ([],([],false)) else (r.1.take n,(r.1.drop n,r.2))
def nmb (n:Nat) (r:Rd):Nat × Rd:=(num (tk n r).1,(tk n r).2)
def rdItem (u:Bs→Option Bs) (r:Rd):It × Rd:=
 let k:=nmb 2 r
 let t:=nmb 4 k.2
 let n:=nmb 1 t.2
 let p:=tk n.1 n.2
 if 32768≤k.1 then (⟨p.1,true,[],(k.1%32768:Nat),(t.1:Nat)⟩,p.2)
 else
  let z:=nmb 2 p.2
  let b:=tk z.1 z.2
  (⟨p.1,false,(u b.1).getD [],(k.1%32768:Nat),(t.1:Nat)⟩,(b.2.1,b.2.2&&(u b.1).isSome))
def qaR (u:Bs→Option Bs):Nat→Rd→List It→List It × Rd
 | 0,r,a=>(a,r)
 | k+1,r,a=>if r.2 then qaR u k (rdItem u r).2 (a++[(rdItem u r).1]) else (a,r)
def parse (u:Bs→Option Bs) (t:Bs):Option (List It):=
 let n:=nmb 1 (t,true)
 let r:=qaR u n.1 n.2 []
 if r.2.2 then some r.1 else none
def IsItem (u:Bs→Option Bs) (x:It) (e:Bs):Prop:=
 if x.dir then e=enc 2 (x.mode.toNat+32768)++enc 4 x.time.toNat++enc 1 x.path.length++x.path
 else ∃ t,u t=some x.data∧t.length≤x.data.length+1∧e=enc 2 x.mode.toNat++enc 4 x.time.toNat++enc 1 x.path.length++x.path++enc 2 t.length++t
def qaL (u:Bs→Option Bs):List It→Bs→Prop
 | [],e=>e=[]
 | x :: l,e=>∃ a b,IsItem u x a∧qaL u l b∧e=a++b
theorem qck {u:Bs→Option Bs}:∀ {l:List It} {e:Bs} {x:It} {a:Bs},qaL u l e→IsItem u x a→qaL u (l++[x]) (e++a)
 | [],e,x,a,h,hx=>by
   simp only [qaL] at h;subst h;exact ⟨a,[],hx,rfl,by simp⟩
 | y :: l,e,x,a,h,hx=>by
   obtain ⟨b,c,hb,hc,rfl⟩:=h;exact ⟨b,c++a,hb,qck hc hx,by simp⟩
def IsText (u:Bs→Option Bs) (l:List It) (t:Bs):Prop:=∃ e,qaL u l e∧t=enc 1 l.length++e
theorem qhF (a b:Bs) (f:Bool):tk a.length (a++b,f)=(a,(b,f)):=by
 unfold tk;rw [if_neg (by simp)];simp
theorem qnJ {n:Nat} {a b:Bs} {f:Bool} (h:n=a.length):tk n (a++b,f)=(a,(b,f)):=by subst h;exact qhF a b f
theorem qbv (k n:Nat) (b:Bs) (f:Bool) (h:n<256^k):nmb k (enc k n++b,f)=(n,(b,f)):=by
 unfold nmb;rw [qnJ (qac k n).symm];simp [qcC k n h]
structure Fit (x:It):Prop where
 m0:0≤x.mode
 m1:x.mode≤4095
 t0:0≤x.time
 t1:x.time≤2147483647
 p:x.path.length≤255
 d:x.data.length≤4000
 e:x.dir=true→x.data=[]
theorem qhb (h:IsItem u x e) (hf:Fit x) (r:Bs):rdItem u (e++r,true)=(x,(r,true)):=by
 obtain ⟨m0,m1,t0,t1,hp,hd,he⟩:=hf;have ht:((x.time.toNat:Nat):Int)=x.time:=Int.toNat_of_nonneg t0;unfold IsItem at h;cases hdir:x.dir with
 | true =>
   rw [hdir,if_pos rfl] at h;subst h;unfold rdItem;simp only [List.append_assoc];rw [qbv 2 _ _ _ (by omega)];simp only [];rw [qbv 4 _ _ _ (by omega)];simp only [];rw [qbv 1 _ _ _ (by omega)];simp only [];rw [qhF,if_pos (by omega)];obtain ⟨p,d,dt,m,t⟩:=x;simp only at *;subst hdir;rw [he rfl,ht]
   have:((m.toNat+32768)%32768:Nat)=m.toNat:=by omega
   rw [this,Int.toNat_of_nonneg m0]
 | false =>
   rw [hdir] at h;simp only [Bool.false_eq_true,if_false] at h;obtain ⟨t,hu,hl,rfl⟩:=h;unfold rdItem;simp only [List.append_assoc];rw [qbv 2 _ _ _ (by omega)];simp only [];rw [qbv 4 _ _ _ (by omega)];simp only [];rw [qbv 1 _ _ _ (by omega)];simp only [];rw [qhF,if_neg (by omega)];simp only [];rw [qbv 2 _ _ _ (by omega)];simp only [];rw [qhF];simp only [hu];obtain ⟨p,d,dt,m,tt⟩:=x;simp only at *;subst hdir;rw [ht]
   have:(m.toNat%32768:Nat)=m.toNat:=by omega
   rw [this,Int.toNat_of_nonneg m0];rfl
theorem qcH {u:Bs→Option Bs}:∀ {l:List It} {e:Bs} (h:qaL u l e) (hf:∀ x∈l,Fit x) (r:Bs) (a:List It),qaR u l.length (e++r,true) a=(a++l,(r,true))
 | [],e,h,_,r,a=>by simp only [qaL] at h;subst h;simp [qaR]
 | x :: l,e,h,hf,r,a=>by
   obtain ⟨b,c,hb,hc,rfl⟩:=h;rw [List.length_cons,qaR,if_pos rfl,List.append_assoc,qhb hb (hf x (by simp))];simp only [];rw [qcH hc (fun y hy=>hf y (by simp [hy]))];simp
theorem qd4 (h:IsText u l t) (hf:∀ x∈l,Fit x) (hn:l.length≤255) (r:Bs):parse u (t++r)=some l:=by
 obtain ⟨e,he,rfl⟩:=h;unfold parse;rw [List.append_assoc,qbv 1 _ _ _ (by omega)];simp only [];rw [qcH he hf];simp
def weigh (l:List It):Nat:=(l.map fun x=>16+x.path.length+x.data.length).sum
theorem qiM (h:IsItem u x e):e.length≤10+x.path.length+x.data.length:=by
 unfold IsItem at h
 split at h
 ·subst h;simp [qac];omega
 obtain ⟨t,_,hl,rfl⟩:=h;simp [qac];omega
theorem qbs {u:Bs→Option Bs}:∀ {l:List It} {e:Bs},qaL u l e→e.length+6*l.length≤weigh l
 | [],e,h=>by simp only [qaL] at h;subst h;simp [weigh]
 | x :: l,e,h=>by
   obtain ⟨a,b,ha,hb,rfl⟩:=h;have h1:=qiM ha;have h2:=qbs hb;simp only [weigh,List.map_cons,List.sum_cons,List.length_append,List.length_cons] at h2 ⊢;omega
theorem qbH (h:IsText u l t):t.length≤weigh l+1:=by
 obtain ⟨e,he,rfl⟩:=h
 have:=qbs he
 simp [qac];omega
theorem qeg (h:IsText u l t):0<t.length:=by
 obtain ⟨e,he,rfl⟩:=h;simp [qac];omega
theorem qgl:∀ p:Bs,((split p).map (fun n=>n.length+1)).sum=p.length+1
 | []=>by simp [split]
 | c :: cs=>by
   obtain ⟨n,ns,e⟩:=qay cs;have ih:=qgl cs;by_cases h:c=47
   ·subst h;rw [qak];simp only [List.map_cons,List.sum_cons,List.length_nil,List.length_cons];omega
   rw [qal h e];rw [e] at ih;simp only [List.map_cons,List.sum_cons,List.length_cons] at ih ⊢;omega
theorem qkU {α:Type} (f:α→Nat) (k:Nat):∀ l:List α,(∀ x∈l,f x≤k)→(l.map f).sum≤k*l.length
 | [],_=>by simp
 | x :: l,h=>by
   have h1:=h x (by simp);have h2:=qkU f k l (fun y hy=>h y (by simp [hy]));simp only [List.map_cons,List.sum_cons,List.length_cons,Nat.mul_succ];omega
theorem qiv {p:Bs} (h:okPath p=true):p.length≤125:=by
 unfold okPath at h;simp only [Bool.and_eq_true,decide_eq_true_eq,List.all_eq_true] at h;have h1:=qgl p;have h2:=qkU (fun n:Bs=>n.length+1) 21 (split p) (fun n hn=>by
  have:=h.2 n hn
  unfold okName at this;simp only [Bool.and_eq_true,decide_eq_true_eq] at this;omega)
 have h3:21*(split p).length≤21*6:=Nat.mul_le_mul_left _ h.1;omega
theorem qaF (h:okItem x=true):Fit x:=by
 unfold okItem at h;simp only [Bool.and_eq_true,decide_eq_true_eq] at h;obtain ⟨⟨⟨⟨⟨⟨h1,h2⟩,h3⟩,h4⟩,h5⟩,h6⟩,h7⟩:=h;refine ⟨h4,h5,h6,h7,by have:=qiv h1;omega,h2,fun hd => ?_⟩;rw [hd] at h3;simpa using h3
theorem qij (h:isTree l=true):(∀ x∈l,Fit x)∧l.length≤60:=by
 unfold isTree at h;simp only [Bool.and_eq_true,decide_eq_true_eq,List.all_eq_true] at h;exact ⟨fun x hx=>qaF (h.1.1.2 x hx),h.1.1.1⟩
def fnv1 (n:Nat) (b:UInt8):Nat:=(n ^^^ b.toNat)*16777619%4294967296
def fnv (l:Bs):Nat:=l.foldl fnv1 2166136261
def less7 (n:Nat):Nat:=n/256*256+n%128
def sumP (l:Bs):Nat:=less7 (fnv l)
theorem qnV (n:Nat) (b:UInt8):fnv1 n b<4294967296:=Nat.mod_lt _ (by decide)
theorem qnh (l:Bs):fnv l<4294967296:=by
 have h:∀ (l:Bs) (a:Nat),a<4294967296→l.foldl fnv1 a<4294967296:=by
  intro l
  induction l with
  | nil=>intro a h;exact h
  | cons x xs ih=>intro a _;exact ih _ (qnV a x)
 exact h l _ (by decide)
theorem qeq {α:Type} (f:α→UInt8→α) (a:α) {l:Bs} {i:Nat} (h:i<l.length):(l.take (i+1)).foldl f a=f ((l.take i).foldl f a) (l.getD i 0):=by
 rw [List.take_add_one,List.getElem?_eq_getElem h];simp only [Option.toList_some,List.foldl_append,List.foldl_cons,List.foldl_nil,List.getD,List.getElem?_eq_getElem h,Option.getD_some]
theorem qmr {l:Bs} {i:Nat} (h:i<l.length):fnv (l.take (i+1))=fnv1 (fnv (l.take i)) (l.getD i 0):=qeq fnv1 _ h
theorem qku (l:Bs):sumP l<4294967296:=by have:=qnh l;unfold sumP less7;omega
theorem qll (l:Bs):sumP l%256<128:=by unfold sumP less7;omega
structure Pg where
 bad:Nat
 num:Nat
 at_:Nat
 of_:Nat
 text:Bs
deriving DecidableEq,Inhabited
def pgHead (p:Pg):Bs:=enc 1 p.bad++enc 4 p.num++enc 2 p.at_++enc 2 p.of_++p.text++List.replicate (51 - p.text.length) 0
def pageB (p:Pg):Bs:=pgHead p++enc 4 (sumP (pgHead p))
theorem qaM (p:Pg) (h:p.text.length≤51):(pgHead p).length=60:=by
 unfold pgHead;simp only [List.length_append,qac,List.length_replicate];omega
theorem pageB_length (p:Pg) (h:p.text.length≤51):(pageB p).length=64:=by
 unfold pageB;rw [List.length_append,qaM p h,qac]
def sayP (s:Bs):Pg:=⟨(s.getD 0 0).toNat,num ((s.drop 1).take 4),num ((s.drop 5).take 2),num ((s.drop 7).take 2),(s.take 60).drop 9⟩
def okP (s:Bs):Bool:=decide (s.length=64)&&decide (num (s.drop 60)=sumP (s.take 60))
def readP (s:Bs):Option Pg:=if okP s&&decide ((sayP s).at_<(sayP s).of_) then some (sayP s) else none
structure PgOk (p:Pg):Prop where
 b:p.bad<256
 n:p.num<4294967296
 a:p.at_<p.of_
 o:p.of_<65536
 t:p.text.length≤51
theorem qb5 {a b:Bs} {n:Nat} (h:n=a.length):(a++b).take n=a:=by subst h;simp
theorem qb4 {a b:Bs} {n:Nat} (h:n=a.length):(a++b).drop n=b:=by subst h;simp
theorem qmI {b:Nat} (h:b<256) (r:Bs):((enc 1 b++r).getD 0 0).toNat=b:=by
 simp [enc,List.getD];omega
theorem qi4 {p:Pg} (h:PgOk p):sayP (pageB p)={ p with text:=p.text++List.replicate (51 - p.text.length) 0 }:=by
 obtain ⟨hb,hn,ha,ho,ht⟩:=h;obtain ⟨b,n,a,o,t⟩:=p;simp only at *;have e60:(pageB ⟨b,n,a,o,t⟩).take 60=pgHead ⟨b,n,a,o,t⟩:=qb5 (qaM _ ht).symm;unfold sayP;rw [e60];unfold pageB pgHead;simp only [List.append_assoc]
 generalize hR:t++(List.replicate (51 - t.length) 0++enc 4 (sumP (enc 1 b++(enc 4 n++(enc 2 a++(enc 2 o++(t++List.replicate (51 - t.length) 0)))))))=R
 have d1:(enc 1 b++(enc 4 n++(enc 2 a++(enc 2 o++R)))).drop 1=enc 4 n++(enc 2 a++(enc 2 o++R)):=qb4 (qac _ _).symm;have d5:(enc 1 b++(enc 4 n++(enc 2 a++(enc 2 o++R)))).drop 5=enc 2 a++(enc 2 o++R):=by
  rw [←List.append_assoc];exact qb4 (by simp [qac])
 have d7:(enc 1 b++(enc 4 n++(enc 2 a++(enc 2 o++R)))).drop 7=enc 2 o++R:=by
  rw [←List.append_assoc,←List.append_assoc];exact qb4 (by simp [qac])
 have d9:(enc 1 b++(enc 4 n++(enc 2 a++(enc 2 o++(t++List.replicate (51 - t.length) 0))))).drop 9=t++List.replicate (51 - t.length) 0:=by
  rw [←List.append_assoc,←List.append_assoc,←List.append_assoc];exact qb4 (by simp [qac])
 rw [d1,d5,d7,d9,qmI hb,qb5 (qac _ _).symm,qb5 (qac _ _).symm,qb5 (qac _ _).symm,qcC 4 n (by omega),qcC 2 a (by omega),qcC 2 o (by omega)]
theorem qlk {p:Pg} (h:p.text.length≤51):okP (pageB p)=true:=by
 unfold okP;rw [pageB_length p h];have e60:(pageB p).take 60=pgHead p:=qb5 (qaM _ h).symm;have d60:(pageB p).drop 60=enc 4 (sumP (pgHead p)):=qb4 (qaM _ h).symm;rw [e60,d60,qcC 4 _ (qku _)];simp
theorem qbl {p:Pg} (h:PgOk p):readP (pageB p)=some { p with text:=p.text++List.replicate (51 - p.text.length) 0 }:=by
 unfold readP;rw [qlk h.t,qi4 h];simp [h.a]
theorem qef {s:Bs} (h:s.getD 63 0=255):readP s=none:=by
 unfold readP okP;by_cases h64:s.length=64
 ·have e:s.drop 60=(s.drop 60).take 3++[s.getD 63 0]:=by
   have h3:(s.drop 60).length=4:=by simp [h64]
   have:=List.take_add_one (l:=s.drop 60) (i:=3)
   rw [List.take_of_length_le (by omega)] at this;refine this.trans ?_
   congr 1
   simp [List.getD];rw [List.getElem?_eq_getElem (by omega)];simp
  have hn:num (s.drop 60)≠sumP (s.take 60):=by
   rw [e,qeZ,h];intro he
   have:=qll (s.take 60)
   rw [←he] at this;have h255:(255:UInt8).toNat=255:=rfl;omega
  simp [hn]
 simp [h64]
theorem readP_some {s:Bs} {p:Pg} (h:readP s=some p):s.length=64∧p=sayP s∧p.at_<p.of_:=by
 unfold readP at h
 split at h
 ·rename_i hc;simp only [okP,Bool.and_eq_true,decide_eq_true_eq] at hc;cases h
  exact ⟨hc.1.1,rfl,hc.2⟩
 cases h
theorem qgq {b:Bs} {k:Nat} (h:b.length≤k):num b<256^k:=Nat.lt_of_lt_of_le (qd1 b) (Nat.pow_le_pow_right (by decide) h)
theorem sayP_fit (s:Bs):(sayP s).bad<256∧(sayP s).num<4294967296∧(sayP s).at_<65536∧(sayP s).of_<65536:=by
 refine ⟨UInt8.toNat_lt _,?_,?_,?_⟩
 ·exact qgq (k:=4) (by simp;omega)
 ·exact qgq (k:=2) (by simp;omega)
 exact qgq (k:=2) (by simp;omega)
theorem qjs {s:Bs} (h:s.length=64):(sayP s).text.length=51:=by
 unfold sayP;simp [h]
def pagesN (n:Nat):Nat:=(n+50)/51
def pgOf (b n:Nat) (t:Bs) (k:Nat):Pg:=⟨b,n,k,pagesN t.length,(t.drop (k*51)).take 51⟩
def splitR (b n:Nat) (t:Bs):List Bs:=(List.range (pagesN t.length)).map fun k=>pageB (pgOf b n t k)
theorem splitR_length (b n:Nat) (t:Bs):(splitR b n t).length=pagesN t.length:=by simp [splitR]
theorem qe7 {b n:Nat} {t:Bs} {k:Nat} (hb:b<256) (hn:n<4294967296) (hk:k<pagesN t.length) (ho:pagesN t.length<65536):PgOk (pgOf b n t k):=
 ⟨hb,hn,hk,ho,by simp [pgOf];omega⟩
theorem qiB (t:Bs):∀ k,k≤pagesN t.length→((List.range k).map fun i=>(t.drop (i*51)).take 51++List.replicate (51 - ((t.drop (i*51)).take 51).length) (0:UInt8)).flatten=(t++List.replicate (k*51 - t.length) 0).take (k*51):=by
 intro k
 induction k with
 | zero=>intro _;simp
 | succ k ih =>
   intro hk;rw [List.range_succ,List.map_append,List.flatten_append,ih (by omega)];simp only [List.map_cons,List.map_nil,List.flatten_cons,List.flatten_nil,List.append_nil];have hkt:k*51<t.length:=by unfold pagesN at hk;omega
   have h0:k*51 - t.length=0:=by omega
   rw [h0];simp only [List.replicate_zero,List.append_nil];have hl:((t.drop (k*51)).take 51).length=min 51 (t.length - k*51):=by simp
   rw [hl];by_cases h:(k+1)*51≤t.length
   ·have e1:51 - min 51 (t.length - k*51)=0:=by omega
    have e2:(k+1)*51 - t.length=0:=by omega
    rw [e1,e2];simp only [List.replicate_zero,List.append_nil];rw [show (k+1)*51=k*51+51 by omega,List.take_add]
   have e1:51 - min 51 (t.length - k*51)=(k+1)*51 - t.length:=by omega
   rw [e1];rw [List.take_of_length_le (l:=t++_) (by simp;omega)];rw [←List.append_assoc]
   congr 1
   rw [List.take_of_length_le (l:=t.drop (k*51)) (by simp;omega)];exact List.take_append_drop _ _
theorem qlQ (t:Bs):∃ z,((List.range (pagesN t.length)).map fun i=>(t.drop (i*51)).take 51++List.replicate (51 - ((t.drop (i*51)).take 51).length) (0:UInt8)).flatten=t++z:=by
 refine ⟨List.replicate (pagesN t.length*51 - t.length) 0,?_⟩;rw [qiB t _ (Nat.le_refl _)];refine List.take_of_length_le ?_;simp [pagesN];omega
structure Fp where
 bad:Nat
 num:Nat
 at_:Nat
 of_:Nat
 text:Bs
 blk:Nat
deriving DecidableEq,Inhabited
def Fp.mk' (p:Pg) (i:Nat):Fp:=⟨p.bad,p.num,p.at_,p.of_,p.text,i⟩
def oneF (g:Nat→Nat→Bs) (i p:Nat):List Fp:=((readP (g i p)).map fun q=>Fp.mk' q i).toList
def rowF (g:Nat→Nat→Bs) (i:Nat):Nat→List Fp
 | 0=>[]
 | k+1=>rowF g i k++oneF g i k
def scanF (g:Nat→Nat→Bs) (np:Nat):Nat→List Fp
 | 0=>[]
 | k+1=>scanF g np k++rowF g k np
theorem ql3 (g:Nat→Nat→Bs) (i p:Nat):(oneF g i p).length≤1:=by
 unfold oneF;cases readP (g i p)<;>simp
theorem qhR (g:Nat→Nat→Bs) (i:Nat):∀ k,(rowF g i k).length≤k
 | 0=>by simp [rowF]
 | k+1=>by
   have h1:=qhR g i k;have h2:=ql3 g i k;simp only [rowF,List.length_append];omega
theorem scanF_len (g:Nat→Nat→Bs) (np:Nat):∀ k,(scanF g np k).length≤k*np
 | 0=>by simp [scanF]
 | k+1=>by
   have h1:=scanF_len g np k;have h2:=qhR g k np;simp only [scanF,List.length_append,Nat.succ_mul];omega
theorem qnb {g:Nat→Nat→Bs} {i p:Nat} {f:Fp}:f∈oneF g i p↔∃ q,readP (g i p)=some q∧f=Fp.mk' q i:=by
 unfold oneF;cases h:readP (g i p) with
 | none=>simp
 | some q=>simp
theorem qhm {g:Nat→Nat→Bs} {i:Nat} {f:Fp}:∀ {k},f∈rowF g i k↔∃ p q,p<k∧readP (g i p)=some q∧f=Fp.mk' q i
 | 0=>by simp [rowF]
 | k+1=>by
   rw [rowF,List.mem_append,qhm,qnb]
   constructor
   ·rintro (⟨p,q,hp,h⟩ | ⟨q,h⟩)
    ·exact ⟨p,q,by omega,h⟩
    exact ⟨k,q,by omega,h⟩
   rintro ⟨p,q,hp,h⟩;by_cases e:p=k
   ·subst e;exact .inr ⟨q,h⟩
   exact .inl ⟨p,q,by omega,h⟩
theorem mem_scanF {g:Nat→Nat→Bs} {np:Nat} {f:Fp}:∀ {k},f∈scanF g np k↔∃ i p q,i<k∧p<np∧readP (g i p)=some q∧f=Fp.mk' q i
 | 0=>by simp [scanF]
 | k+1=>by
   rw [scanF,List.mem_append,mem_scanF,qhm]
   constructor
   ·rintro (⟨i,p,q,hi,h⟩ | ⟨p,q,h⟩)
    ·exact ⟨i,p,q,by omega,h⟩
    exact ⟨k,p,q,by omega,h⟩
   rintro ⟨i,p,q,hi,h⟩;by_cases e:i=k
   ·subst e;exact .inr ⟨p,q,h⟩
   exact .inl ⟨i,p,q,by omega,h⟩
structure FpOk (f:Fp):Prop where
 b:f.bad<256
 n:f.num<4294967296
 a:f.at_<f.of_
 o:f.of_<65536
 t:f.text.length=51
theorem scanF_ok {g:Nat→Nat→Bs} {np k:Nat} {f:Fp} (h:f∈scanF g np k):FpOk f∧f.blk<k:=by
 obtain ⟨i,p,q,hi,hp,hr,rfl⟩:=mem_scanF.1 h;obtain ⟨h1,rfl,h3⟩:=readP_some hr
 have:=sayP_fit (g i p)
 exact ⟨⟨this.1,this.2.1,h3,this.2.2.2,qjs h1⟩,hi⟩
def isAt (b n a:Nat) (f:Fp):Bool:=f.bad==b&&f.num==n&&f.at_==a
theorem isAt_iff {b n a:Nat} {f:Fp}:isAt b n a f=true↔f.bad=b∧f.num=n∧f.at_=a:=by
 simp [isAt,and_assoc]
def lookF (l:List Fp) (b n a:Nat):Option Fp:=l.find? (isAt b n a)
theorem qed (l:List Fp) (f:Fp) (b n a:Nat):lookF (l++[f]) b n a=if (lookF l b n a).isSome then lookF l b n a else if isAt b n a f then some f else none:=by
 unfold lookF;rw [List.find?_append];cases h:l.find? (isAt b n a) with
 | some x=>simp
 | none=>cases hf:isAt b n a f<;>simp [List.find?,hf]
theorem qaq {l:List Fp} {b n a:Nat} {f:Fp} (h:lookF l b n a=some f):f∈l∧f.bad=b∧f.num=n∧f.at_=a:=
 ⟨List.mem_of_find?_eq_some h,isAt_iff.1 (List.find?_some h)⟩
theorem qbu {l:List Fp} {f:Fp} (h:f∈l) (hu:∀ x∈l,x.bad=f.bad→x.num=f.num→x.at_=f.at_→x=f):lookF l f.bad f.num f.at_=some f:=by
 cases hl:lookF l f.bad f.num f.at_ with
 | some x =>
   obtain ⟨h1,h2,h3,h4⟩:=qaq hl;rw [hu x h1 h2 h3 h4]
 | none =>
   unfold lookF at hl
   have:=List.find?_eq_none.1 hl f h
   simp [isAt] at this
theorem lookF_none {l:List Fp} {b n a:Nat}:lookF l b n a=none↔∀ f∈l,¬(f.bad=b∧f.num=n∧f.at_=a):=by
 unfold lookF;rw [List.find?_eq_none]
 constructor
 ·intro h f hf he;exact h f hf (isAt_iff.2 he)
 intro h f hf he;exact h f hf (isAt_iff.1 he)
def hasL (l:List Fp) (b n:Nat):Bool:=l.any fun f=>f.bad==b&&f.num==n
theorem hasL_iff {l:List Fp} {b n:Nat}:hasL l b n=true↔∃ f∈l,f.bad=b∧f.num=n:=by
 simp [hasL]
def ofF (l:List Fp) (b n:Nat):Nat:=((lookF l b n 0).map Fp.of_).getD 0
def partF (l:List Fp) (b n o:Nat):Nat→Option (List Fp)
 | 0=>some []
 | k+1=>match partF l b n o k,lookF l b n k with
   | some ps,some f=>if f.of_=o then some (ps++[f]) else none
   | _,_=>none
def recF (l:List Fp) (b n:Nat):Option (List Fp):=if ofF l b n=0 then none else partF l b n (ofF l b n) (ofF l b n)
theorem qcv {l:List Fp} {b n o:Nat}:∀ {k j:Nat},k≤j→partF l b n o k=none→partF l b n o j=none:=by
 intro k j hk h
 induction j with
 | zero=>have:k=0:=by omega
         subst this;exact h
 | succ j ih =>
   by_cases e:k=j+1
   ·subst e;exact h
   rw [partF,ih (by omega)]
def txtF (ps:List Fp):Bs:=(ps.map Fp.text).flatten
def inF (ps:List Fp) (j:Nat):Bool:=ps.any fun f=>f.blk==j
def endF (ps:List Fp):Nat:=(ps.getLast?.map Fp.blk).getD 0
theorem qcj (ps:List Fp) (f:Fp):txtF (ps++[f])=txtF ps++f.text:=by simp [txtF]
theorem qhL (ps:List Fp) (f:Fp) (j:Nat):inF (ps++[f]) j=(j==f.blk||inF ps j):=by
 simp [inF,Bool.or_comm,BEq.comm (a:=f.blk)]
theorem qfC (ps:List Fp) (f:Fp):endF (ps++[f])=f.blk:=by simp [endF]
def fpR (b n:Nat) (t:Bs) (k i:Nat):Fp:=⟨b,n,k,pagesN t.length,(t.drop (k*51)).take 51++List.replicate (51 - ((t.drop (k*51)).take 51).length) 0,i⟩
theorem qdD {l:List Fp} {b n:Nat} {t:Bs} {blk:Nat→Nat} (h:∀ k,k<pagesN t.length→lookF l b n k=some (fpR b n t k (blk k))):∀ k,k≤pagesN t.length→partF l b n (pagesN t.length) k=some ((List.range k).map fun j=>fpR b n t j (blk j))
 | 0,_=>rfl
 | k+1,hk=>by
   rw [partF,qdD h k (by omega),h k (by omega),List.range_succ];simp [fpR]
theorem qcr {l:List Fp} {b n:Nat} {t:Bs} {blk:Nat→Nat} (h0:0<t.length) (h:∀ k,k<pagesN t.length→lookF l b n k=some (fpR b n t k (blk k))):recF l b n=some ((List.range (pagesN t.length)).map fun j=>fpR b n t j (blk j)):=by
 have hp:0<pagesN t.length:=by unfold pagesN;omega
 have ho:ofF l b n=pagesN t.length:=by
  unfold ofF;rw [h 0 hp];rfl
 unfold recF;rw [ho,if_neg (by omega)];exact qdD h _ (Nat.le_refl _)
theorem qem (b n:Nat) (t:Bs) (blk:Nat→Nat):∃ z,txtF ((List.range (pagesN t.length)).map fun j=>fpR b n t j (blk j))=t++z:=by
 obtain ⟨z,hz⟩:=qlQ t;refine ⟨z,?_⟩;rw [←hz];unfold txtF;rw [List.map_map];rfl
end Go.Nt
namespace Go.Proofs.YtodmdkhdbfbfgaaGreatDoor
namespace S1
open Go.RowKit Pk
variable {i b n:Nat} {w:World} {S:Nat→Bool}
theorem law3:Maps.Keyed Tryz.prog 3:=Maps.int_keyed Tryz.underlying3
theorem key3 (h:i≤1000000):keyOf Tryz.prog 3 (.int .i64 (i:Nat))=some (.int .i64 (i:Nat)):=Maps.keyOf_int_mk Tryz.underlying3 (by simp [Lit.wf,IntKind.min,IntKind.max,IntKind.signed,IntKind.bits];omega)
theorem qgC (w:World):(zeroValue 243).run Tryz.prog w=.ok (.agg #[]) w:=by kernel_rfl
def BlAt (w:World) (b:Nat) (n:Nat) (S:Nat→Bool):Prop:=
 ∃ D:DataW Unit,w.ownsMap Tryz.prog 3 unitElem b n D∧∀ i:Nat,Maps.has D (.int .i64 (i:Nat))=S i
def BlV (w:World) (v:Option Nat) (n:Nat) (S:Nat→Bool):Prop:=(v=none∧∀ i,S i=false)∨∃ b,v=some b∧BlAt w b n S
theorem BlAt.lt (h:BlAt w b n S):b<w.heap.size:=by obtain ⟨D,h,_⟩:=h;exact h.lt
theorem BlAt.of_block {w':World} (h:BlAt w b n S) (hb:w'.heap[b]? = w.heap[b]?):BlAt w' b n S:=by
 obtain ⟨D,⟨es,clock,h1,h2⟩,hh⟩:=h;exact ⟨D,⟨es,clock,hb.trans h1,h2⟩,hh⟩
theorem BlAt.mono {n':Nat} (h:BlAt w b n S) (hn:n≤n'):BlAt w b n' S:=by
 obtain ⟨D,h1,hh⟩:=h;exact ⟨D,h1.mono hn,hh⟩
theorem BlAt.congr {T:Nat→Bool} (h:BlAt w b n S) (e:∀ i,S i=T i):BlAt w b n T:=by
 obtain ⟨D,h1,hh⟩:=h;exact ⟨D,h1,fun i=>(hh i).trans (e i)⟩
theorem qgO (w:World):BlAt (w.alloc (.map #[] 0)) w.heap.size 0 (fun _=>false):=⟨.map [],World.ownsMap_made w _ _ _,fun i=>rfl⟩
theorem BlAt.look (h:BlAt w b n S) (hi:i≤1000000):(Instr.lookup 92 (.map (some b)) (.int .i64 (i:Nat)) true).run Tryz.prog w=.ok (.tuple #[.agg #[],.bool (S i)]) w:=by
 obtain ⟨D,ho,hh⟩:=h;obtain ⟨v,ps,h1,h2⟩:=ho.look_ok law3 Tryz.underlying92 (qgC w) unitElem_mk (key3 hi);rw [hh i,(unitElem_inv h2).1] at h1;exact h1
theorem qiR (w:World) (hi:i≤1000000):(Instr.lookup 92 (.map none) (.int .i64 (i:Nat)) true).run Tryz.prog w=.ok (.tuple #[.agg #[],.bool false]) w:=by
 have:=Maps.look_nil (w:=w) true law3 Tryz.underlying92 (qgC w) (key3 hi)
 simpa using this
theorem BlV.look {v:Option Nat} (h:BlV w v n S) (hi:i≤1000000):(Instr.lookup 92 (.map v) (.int .i64 (i:Nat)) true).run Tryz.prog w=.ok (.tuple #[.agg #[],.bool (S i)]) w:=by
 rcases h with ⟨rfl,h⟩ | ⟨b,rfl,h⟩
 ·rw [h i];exact qiR w hi
 exact h.look hi
theorem int_ne {j:Nat} (h:i≠j):Lit.int .i64 (i:Nat)≠.int .i64 (j:Nat):=fun e=>h (by cases e;rfl)
theorem BlAt.store (h:BlAt w b n S) (hi:i≤1000000) (hn:n≤1000000) :
 ∃ w',(Instr.mapUpdate 92 (.map (some b)) (.int .i64 (i:Nat)) (.agg #[])).run Tryz.prog w=.ok () w'∧BlAt w' b (n+1) (fun j=>j==i||S j)∧w.mapTurned w' b:=by
 obtain ⟨D,ho,hh⟩:=h;obtain ⟨w',h1,h2,h3⟩:=ho.store law3 Tryz.underlying92 (by unfold maxLen;omega) (key3 hi) unitElem_mk;refine ⟨w',h1,⟨_,h2,fun j => ?_⟩,h3⟩;by_cases e:j=i
 ·subst e;rw [Maps.has_put_same ho.isMap (k:=.int .i64 (j:Nat)) trivial];simp
 rw [Maps.has_put_other (int_ne e),hh j];simp [e]
theorem BlAt.drop (h:BlAt w b n S) (hi:i≤1000000) (ty:TypeId) :
 ∃ w',(Builtin.delete_ #[92,3] ty #[.map (some b),.int .i64 (i:Nat)]).run Tryz.prog w=.ok (.tuple #[]) w'∧BlAt w' b n (fun j => !(j==i)&&S j)∧w.mapTurned w' b:=by
 obtain ⟨D,ho,hh⟩:=h;obtain ⟨w',h1,h2,h3⟩:=ho.drop law3 Tryz.underlying92 (key3 hi) ty;refine ⟨w',h1,⟨_,h2,fun j => ?_⟩,h3⟩;by_cases e:j=i
 ·subst e;rw [Maps.has_del_same];simp
 rw [Maps.has_del_other (int_ne e),hh j];simp [e]
theorem qhU (v:Option Nat) (n i:Nat) (S:Nat→Bool) (w:World) (h:BlV w v n S) (hi:i≤1000000) :
 Calls Tryz.prog 243 #[.map v,.int .i64 (i:Nat)] w fun e w'=>e=.returned (.bool (S i))∧Below w.heap.size w w':=by
 have hl:=h.look hi;clear h;obtain ⟨r,hr⟩:∃ r,r=S i:=⟨_,rfl⟩;rw [←hr] at hl ⊢;clear hr;go_enter Tryz.func243,Tryz.ntmps243
 go_wp2;go_ret
 exact ⟨rfl,(Below.refl _ w).alloc (Nat.le_refl _) _⟩
theorem pagesOf_any (t:List UInt8) (w:World) (ht:t.length≤1000000000):Calls Tryz.prog 123 #[.string (txt t)] w fun e w'=>e=.returned (.int .i64 (Go.Nt.pagesN t.length:Nat))∧w'=w:=by
 have hs:(txt t).size=t.length:=qaa t;obtain ⟨X,hX⟩:∃ X,X=txt t:=⟨_,rfl⟩;rw [←hX] at hs ⊢;obtain ⟨n,hn⟩:∃ n,n=t.length:=⟨_,rfl⟩;rw [←hn] at ht hs ⊢;clear hX hn;have e:((n:Int)+51 - 1).tdiv 51=(Go.Nt.pagesN n:Nat):=by
  rw [Int.tdiv_eq_ediv_of_nonneg (by omega)];unfold Go.Nt.pagesN;omega
 obtain ⟨q,hq⟩:∃ q,q=Go.Nt.pagesN n:=⟨_,rfl⟩;rw [←hq] at e ⊢;have hX9:X.size≤1000000000:=by omega
 have Hs:=hidI hs;have He:=hidI e;clear hs hq e;go_enter Tryz.func123,Tryz.ntmps123
 go_wp2;go_ret
 refine ⟨qav ?_,rfl⟩;have h1:=Hs.out;have h2:=He.out;rw [←h1] at h2;rw [←h2]
 first | rfl | (rw [Int.tdiv_eq_ediv_of_nonneg (by omega)])
def badN (m:M):Nat:=(List.range m.nb).countP fun i=>m.bd i
theorem badN_le (m:M):badN m≤m.nb:=by
 have:=List.countP_le_length (p:=fun i=>m.bd i) (l:=List.range m.nb)
 simpa [badN] using this
def good (m:M):Nat:=m.nb - badN m
theorem qnK (m:M):good m≤m.nb:=Nat.sub_le _ _
def roomP (m:M):Nat:=good m/2*m.np
theorem qly (m:M) (h:i<m.nb):badB m (i:Nat)=m.bd i:=by
 unfold badB hasB;simp [h]
theorem qbm (w:World) (lo hi cb:Nat) (L:Loc) (m:M) (hw:WF m) (h:CP w lo hi cb L m) :
 Calls Tryz.prog 189 #[.pointer (some ⟨cb,0,none⟩)] w fun e w'=>e=.returned (.int .i64 (badN m:Nat))∧w'=w:=by
 have HB:=hidI (qaU w lo hi cb L m h);have HD:=hidI (fun i (hi':i<m.nb)=>by have:=qdE w lo hi cb L m (i:Nat) h;rw [qly m hi'] at this;exact this);have h1:=hw.nb2;clear h hw;go_enter Tryz.func189,Tryz.ntmps189
 go_wp2_with fail;refine HB.out.mono ?_;rintro e w' ⟨rfl,hw⟩;have hw':=hw.symm;subst hw';clear hw;go_wp2_with fail
 go_loopw [3,7] (fun g i wr=>wr=w∧∃ k c:Nat,k≤m.nb∧i=.int .i64 k∧g=.int .i64 c∧c≤k∧Hid (c=(List.range k).countP fun i=>m.bd i)) (fun _ i _=>m.nb - (intOf i).toNat)
 case atStart=>exact ⟨rfl,0,0,Nat.zero_le _,rfl,rfl,Nat.le_refl _,hidI rfl⟩
 case round =>
  obtain ⟨rfl,k,c,hk,rfl,rfl,hc,Hc⟩:=hrel;by_cases hlt:k<m.nb
  ·have A:=hidI (HD.out k hlt);have Hn:Hid ((List.range (k+1)).countP (fun i=>m.bd i)=c+if m.bd k then 1 else 0):=hidI (by
    rw [List.range_succ,List.countP_append,←Hc.out];cases hbk:m.bd k<;>simp [hbk])
   obtain ⟨b,hb⟩:∃ b,b=m.bd k:=⟨_,rfl⟩;rw [←hb] at A Hn;clear hb;cases b with
   | true =>
     go_wp2_with (go_at_call 94;refine A.out.mono ?_;rintro e w' ⟨rfl,hw⟩;have hw':=hw.symm;subst hw';clear hw);go_roundw
     case rel=>exact ⟨trivial,k+1,c+1,by omega,by go_num,by go_num,by omega,hidI (by rw [Hn.out];simp)⟩
     case measure=>simp [intOf];omega
   | false =>
     go_wp2_with (go_at_call 94;refine A.out.mono ?_;rintro e w' ⟨rfl,hw⟩;have hw':=hw.symm;subst hw';clear hw);go_roundw
     case rel=>exact ⟨trivial,k+1,c,by omega,by go_num,rfl,by omega,hidI (by rw [Hn.out];simp)⟩
     case measure=>simp [intOf];omega
  have hkn:k=m.nb:=by omega
  subst hkn;go_wp2;go_ret
  have hbn:badN m=c:=by have h9:=Hc.out;unfold badN;exact h9.symm
  exact ⟨by rw [hbn];rfl,rfl⟩
theorem ql7 (w:World) (lo hi cb:Nat) (L:Loc) (m:M) (hw:WF m) (h:CP w lo hi cb L m) :
 Calls Tryz.prog 124 #[.pointer (some ⟨cb,0,none⟩)] w fun e w'=>e=.returned (.int .i64 (roomP m:Nat))∧w'=w:=by
 have HB:=hidI (qaU w lo hi cb L m h);have HP:=hidI (pages_any w lo hi cb L m h);have HD:=hidI (qbm w lo hi cb L m hw h);have h1:=hw.nb2;have h2:=hw.np2;have h3:=badN_le m;obtain ⟨bn,hbn⟩:∃ bn,bn=badN m:=⟨_,rfl⟩;rw [←hbn] at HD h3;obtain ⟨nb,hnb⟩:∃ nb,nb=m.nb:=⟨_,rfl⟩;rw [←hnb] at HB h1 h3;obtain ⟨np,hnp⟩:∃ np,np=m.np:=⟨_,rfl⟩;rw [←hnp] at HP h2;have HR:Hid (roomP m=(nb - bn)/2*np):=hidI (by unfold roomP good;rw [hbn,hnb,hnp]);have e2:((nb:Int) - (bn:Int)).tdiv 2=(((nb - bn)/2:Nat):Int):=by rw [Int.tdiv_eq_ediv_of_nonneg (by omega)];omega
 obtain ⟨q,hq⟩:∃ q,q=(nb - bn)/2:=⟨_,rfl⟩;have hq9:q≤16:=by omega
 have e3:((nb:Int) - (bn:Int))/2=(q:Nat):=by omega
 rw [←hq] at e2 HR;have hmul:q*np≤256:=Nat.mul_le_mul hq9 h2;clear h hw hbn hnb hnp hq;go_enter Tryz.func124,Tryz.ntmps124
 go_wp2_with (first | (go_at_call 76;refine HB.out.mono ?_;rintro e w' ⟨rfl,hw⟩;have hw':=hw.symm;subst hw';clear hw) | (go_at_call 77;refine HP.out.mono ?_;rintro e w' ⟨rfl,hw⟩;have hw':=hw.symm;subst hw';clear hw) | (go_at_call 189;refine HD.out.mono ?_;rintro e w' ⟨rfl,hw⟩;have hw':=hw.symm;subst hw';clear hw));go_ret
 exact ⟨by rw [HR.out];simp,rfl⟩
theorem qeB (b n i:Nat) (S:Nat→Bool) (w:World) (h:BlAt w b n S) (hi:i≤1000000) (hn:n≤1000000) :
 Calls Tryz.prog 126 #[.map (some b),.int .i64 (i:Nat)] w fun e w'=>e=.returned (.tuple #[])∧BlAt w' b (n+1) (fun j=>j==i||S j)∧w.mapTurned w' b:=by
 obtain ⟨V,hu,hS,hm⟩:=h.store hi hn;have HS:=hidI hS;have HM:=hidI hm;clear h hS hm;go_enter Tryz.func126,Tryz.ntmps126
 go_wp2;go_end0
 exact ⟨rfl,HS.out,HM.out⟩
end S1
namespace S1
open Go.RowKit Pk
structure Fm (S:Nat→Prop) (w w':World):Prop where
 os:w'.os=w.os
 tape:w'.tape=w.tape
 output:w'.output=w.output
 size:w.heap.size≤w'.heap.size
 block:∀ k,k<w.heap.size→¬S k→w'.heap[k]? = w.heap[k]?
namespace Fm
variable {S T:Nat→Prop} {a b c:World}
theorem refl (S:Nat→Prop) (w:World):Fm S w w:=⟨rfl,rfl,rfl,Nat.le_refl _,fun _ _ _=>rfl⟩
theorem trans (h:Fm S a b) (k:Fm S b c):Fm S a c:=
 ⟨k.os.trans h.os,k.tape.trans h.tape,k.output.trans h.output,Nat.le_trans h.size k.size,fun i hi hn=>(k.block i (Nat.lt_of_lt_of_le hi h.size) hn).trans (h.block i hi hn)⟩
theorem mono (h:Fm S a b) (e:∀ k,k<a.heap.size→S k→T k):Fm T a b:=⟨h.os,h.tape,h.output,h.size,fun k hk hn=>h.block k hk (fun hs=>hn (e k hk hs))⟩
theorem of_below {B:Nat} (h:Below B a b) (hB:∀ k,B≤k→k<a.heap.size→S k):Fm S a b:=
 ⟨h.os,h.tape,h.output,h.size,fun k hk hn=>h.block k (by
  rcases Nat.lt_or_ge k B with h1 | h1
  ·exact h1
  exact absurd (hB k h1 hk) hn)⟩
theorem of_new (h:Below a.heap.size a b):Fm S a b:=of_below h fun k h1 h2=>absurd h1 (by omega)
theorem of_only {lo hi:Nat} (h:Only lo hi a b) (e:∀ k,lo≤k→k<hi→S k):Fm S a b:=
 ⟨h.os,h.tape,h.output,h.size,fun k hk hn=>h.block k hk (fun hs=>hn (e k hs.1 hs.2))⟩
theorem only {lo hi:Nat} (h:Fm S a b) (e:∀ k,k<a.heap.size→S k→lo≤k∧k<hi):Only lo hi a b:=
 ⟨h.os,h.tape,h.output,h.size,fun k hk hn=>h.block k hk (fun hs=>hn (e k hk hs))⟩
theorem below {B:Nat} (h:Fm S a b) (e:∀ k,S k→B≤k) (hB:B≤a.heap.size):Below B a b:=
 ⟨h.os,h.tape,h.output,h.size,fun k hk=>h.block k (by omega) (fun hs=>by have:=e k hs;omega)⟩
theorem drew (h:Fm S a b):Fm S a b.drew:=h.trans ⟨rfl,rfl,rfl,Nat.le_refl _,fun _ _ _=>rfl⟩
theorem alloc (h:Fm S a b) (o:Obj):Fm S a (b.alloc o):=h.trans ⟨rfl,rfl,rfl,by simp,fun k hk _=>Below.heap_alloc b o k hk⟩
theorem set (h:Fm S a b) {g:Nat} (hg:g<a.heap.size→S g) (o:Nat) (v:Value):Fm S a (b.setCell ⟨g,o,none⟩ v):=
 ⟨h.os,h.tape,h.output,by have:=h.size;simpa using this,fun k hk hn=>(Below.heap_setCell b ⟨g,o,none⟩ v k (fun e=>hn (by have e':k=g:=e;subst e';exact hg hk))).trans (h.block k hk hn)⟩
theorem map (h:Fm S a b) {g:Nat} (hg:g<a.heap.size→S g) (hm:b.mapTurned c g):Fm S a c:=
 ⟨hm.grown.os.trans h.os,hm.grown.tape.trans h.tape,hm.grown.output.trans h.output,Nat.le_trans h.size hm.grown.size,fun k hk hn=>(hm.grown.block k (Nat.lt_of_lt_of_le hk h.size) (fun e=>by cases e;exact hn (hg hk))).trans (h.block k hk hn)⟩
end Fm
theorem make92 (w:World):(Instr.makeMap 92 none).run Tryz.prog w=.ok (.map (some w.heap.size)) (w.alloc (.map #[] 0)):=by
 simp [Instr.makeMap,Result.andThen]
def mayE (m:M) (n:Nat):Int:=if m.life=0 then 10 else if roomP m<Go.Nt.pagesN n then 9 else 0
theorem qjV (w:World) (lo hi cb:Nat) (L:Loc) (m:M) (t:List UInt8) (hw:WF m) (h:CP w lo hi cb L m) (ht:t.length≤1000000000) :
 Calls Tryz.prog 74 #[.pointer (some ⟨cb,0,none⟩),.string (txt t)] w fun e w'=>e=.returned (.int .i64 (mayE m t.length))∧w'=w:=by
 have HD:=hidI (dead_any w lo hi cb L m h);have HP:=hidI (pagesOf_any t w ht);have HR:=hidI (ql7 w lo hi cb L m hw h);obtain ⟨X,hX⟩:∃ X,X=txt t:=⟨_,rfl⟩;rw [←hX] at HP ⊢;by_cases h0:m.life=0
 ·have e:mayE m t.length=10:=by unfold mayE;rw [if_pos h0]
  have hb:(m.life==0)=true:=beq_iff_eq.2 h0;rw [e];rw [hb] at HD;clear h hw hX e hb h0;go_enter Tryz.func74,Tryz.ntmps74
  go_wp2_with (go_at_call 25;refine HD.out.mono ?_;rintro e w' ⟨rfl,hw⟩;have hw':=hw.symm;subst hw';clear hw);go_ret
  exact ⟨rfl,rfl⟩
 have hb:(m.life==0)=false:=beq_eq_false_iff_ne.2 h0;rw [hb] at HD;have e:mayE m t.length=if roomP m<Go.Nt.pagesN t.length then 9 else 0:=by unfold mayE;rw [if_neg h0]
 rw [e];obtain ⟨p,hp⟩:∃ p,p=Go.Nt.pagesN t.length:=⟨_,rfl⟩;obtain ⟨r,hr⟩:∃ r,r=roomP m:=⟨_,rfl⟩;rw [←hp] at HP ⊢;rw [←hr] at HR ⊢;clear h hw hX e hb h0 hp hr;by_cases hlt:r<p
 focus
  have hlt':(r:Int)<(p:Int):=by omega
  rw [if_pos hlt]
 rotate_left
 focus
  have hlt':¬(r:Int)<(p:Int):=by omega
  rw [if_neg hlt]
 rotate_left
 all_goals
  go_enter Tryz.func74,Tryz.ntmps74
  go_wp2_with (first | (go_at_call 25;refine HD.out.mono ?_;rintro e w' ⟨rfl,hw⟩;have hw':=hw.symm;subst hw';clear hw) | (go_at_call 123;refine HP.out.mono ?_;rintro e w' ⟨rfl,hw⟩;have hw':=hw.symm;subst hw';clear hw) | (go_at_call 124;refine HR.out.mono ?_;rintro e w' ⟨rfl,hw⟩;have hw':=hw.symm;subst hw';clear hw));go_ret
  exact ⟨rfl,rfl⟩
theorem qk4 (m:M) (b:Int):(eraA m b).2.nb=m.nb:=by
 unfold eraA eraF
 repeat' split
 all_goals rfl
theorem qji (m:M) (b:Int):(eraA m b).2.np=m.np:=by
 unfold eraA eraF
 repeat' split
 all_goals rfl
theorem qhh (m:M) (b p:Int) (s:List UInt8):(progA m b p s).2.nb=m.nb:=by
 unfold progA progF
 repeat' split
 all_goals rfl
theorem qcP (m:M) (b p:Int) (s:List UInt8):(progA m b p s).2.np=m.np:=by
 unfold progA progF
 repeat' split
 all_goals rfl
def eraAll (m:M):Nat→M × (Nat→Bool)
 | 0=>(m,fun _=>false)
 | k+1=>((eraA (eraAll m k).1 (k:Nat)).2,if (eraA (eraAll m k).1 (k:Nat)).1 then (fun j=>j==k||(eraAll m k).2 j) else (eraAll m k).2)
theorem qge (m:M):∀ k,(eraAll m k).1.nb=m.nb
 | 0=>rfl
 | k+1=>by rw [eraAll];exact (qk4 _ _).trans (qge m k)
theorem qdg {m:M} (h:WF m):∀ k,WF (eraAll m k).1
 | 0=>h
 | k+1=>by rw [eraAll];exact qeQ (qdg h k) _
theorem qks (w:World) (lo hi cb:Nat) (L:Loc) (m:M) (hw:WF m) (h:CP w lo hi cb L m) (hsz:hi≤w.heap.size) :
 Calls Tryz.prog 75 #[.pointer (some ⟨cb,0,none⟩)] w fun e w'=>e=.returned (.map (some w.heap.size))∧CP w' lo hi cb L (eraAll m m.nb).1∧BlAt w' w.heap.size m.nb (eraAll m m.nb).2∧Only lo hi w w':=by
 have h32:=hw.nb2;obtain ⟨W0,hW0⟩:∃ W0,W0=w.alloc (.map #[] 0):=⟨_,rfl⟩;have hbW:Below w.heap.size w W0:=by rw [hW0];exact (Below.refl _ w).alloc (Nat.le_refl _) _
 have hC0:CP W0 lo hi cb L m:=MemX.below h hsz hbW;have hS0:BlAt W0 w.heap.size 0 (fun _=>false):=by rw [hW0];exact qgO w
 have HBl:=hidI (qaU W0 lo hi cb L m hC0);have HC0:=hidI hC0;have HS0:=hidI hS0;have HO0:Hid (Only lo hi w W0):=hidI (Only.of_below hbW);have HW0:=hidI hW0;have HW:=hidI hw;have hmk:=make92 w;rw [←hW0] at hmk;obtain ⟨g,hg⟩:∃ g,g=w.heap.size:=⟨_,rfl⟩;rw [←hg] at HS0 hsz hmk ⊢;have Hg:=hidI hg;obtain ⟨nb,hnb⟩:∃ nb,nb=m.nb:=⟨_,rfl⟩;rw [←hnb] at HBl h32 ⊢;have Hnb:=hidI hnb;clear h hw hbW hC0 hS0 hW0 hnb hg;go_enter Tryz.func75,Tryz.ntmps75
 go_wp2_with fail;refine HBl.out.mono ?_;rintro e w' ⟨rfl,hw⟩;have hw':=hw.symm;subst hw';clear hw;go_wp2_with fail
 go_loopw [8] (fun i wr=>∃ k:Nat,k≤nb∧i=.int .i64 k∧Hid (CP wr lo hi cb L (eraAll m k).1)∧Hid (BlAt wr g k (eraAll m k).2)∧Hid (Only lo hi w wr)) (fun i _=>nb - (intOf i).toNat)
 case atStart=>exact ⟨0,Nat.zero_le _,rfl,HC0,HS0,HO0⟩
 case round =>
  clear HC0 HS0 HO0 HW0 HBl;obtain ⟨k,hk,rfl,HC,HS,HO⟩:=hrel;have hgs:g<wr.heap.size:=HS.out.lt;by_cases hlt:k<nb
  ·have A:=hidI (qjB wr lo hi cb L (eraAll m k).1 (k:Nat) (qdg HW.out k) HC.out (by omega));obtain ⟨r,hr⟩:∃ r,r=(eraA (eraAll m k).1 (k:Nat)).1:=⟨_,rfl⟩;have Hst:Hid (eraAll m (k+1)=((eraA (eraAll m k).1 (k:Nat)).2,if r then (fun j=>j==k||(eraAll m k).2 j) else (eraAll m k).2)):=hidI (by rw [hr];rfl);rw [←hr] at A;clear hr;go_wp2_with fail;refine A.out.mono ?_;rintro e w1 ⟨rfl,hC1,hO1⟩;have hS1:BlAt w1 g k (eraAll m k).2:=HS.out.of_block (hO1.block g hgs (by omega));have HC1:Hid (CP w1 lo hi cb L (eraAll m (k+1)).1):=hidI (by rw [Hst.out];exact hC1);have HO1:=hidI (HO.out.trans hO1);have hgs1:=Nat.lt_of_lt_of_le hgs hO1.size;have HS1:=hidI hS1;clear A hC1 hO1 HC HS HO hS1;cases r with
   | true =>
     have A2:=hidI (qeB g k k _ w1 HS1.out (by omega) (by omega));go_wp2_with fail;refine A2.out.mono ?_;rintro e V ⟨rfl,hSV,hmV⟩;have HCV:Hid (CP V lo hi cb L (eraAll m (k+1)).1):=hidI (MemX.of_blocks HC1.out fun j _ h2=>hmV.grown.block j (by omega) (fun e=>by cases e;omega));have HSV:Hid (BlAt V g (k+1) (eraAll m (k+1)).2):=hidI (by rw [Hst.out];exact hSV);have HOV:Hid (Only lo hi w V):=hidI ⟨hmV.grown.os.trans HO1.out.os,hmV.grown.tape.trans HO1.out.tape,hmV.grown.output.trans HO1.out.output,Nat.le_trans HO1.out.size hmV.grown.size,fun j hj hn=>(hmV.grown.block j (Nat.lt_of_lt_of_le hj HO1.out.size) (fun e=>by cases e;have:=Hg.out;omega)).trans (HO1.out.block j hj hn)⟩;clear hSV hmV HS1 HC1 HO1 A2;go_wp2;go_roundw
     case rel=>exact ⟨k+1,by omega,by go_num,HCV,HSV,HOV⟩
     case measure=>simp [intOf];omega
   | false =>
     have HSV:Hid (BlAt w1 g (k+1) (eraAll m (k+1)).2):=hidI (by rw [Hst.out];exact HS1.out.mono (by omega));go_wp2;go_roundw
     case rel=>exact ⟨k+1,by omega,by go_num,HC1,HSV,HO1⟩
     case measure=>simp [intOf];omega
  have hkn:k=nb:=by omega
  subst hkn;go_wp2;go_ret
  exact ⟨rfl,HC.out,HS.out,HO.out⟩
end S1
namespace S1
open Go.RowKit Pk
theorem qh2 {P:Program} {c:Code} {Q:Exit→Act→World→Prop} {a:Act} {w:World} {F:Act} {W:World} (reg:c.wp P (NoPanic fun e a' w'=>e=.normal∧a'=F∧w'=W) a w) (cont:Q .normal F W):c.wp P Q a w:=by
 refine Code.wp_mono (fun e a' w' h => ?_) reg;cases e with
 | panic c=>exact (h:False).elim
 | normal =>
   obtain ⟨_,h2,h3⟩:Exit.normal=Exit.normal∧a'=F∧w'=W:=h;rw [h2,h3];exact cont
 | _ =>
   have h':=NoPanic.imp _ _ _ h;obtain ⟨h1,_,_⟩:=h';cases h1
structure Lv where
 nb:Nat
 nn:Nat
 tk:Option Nat
def LogAt (w:World) (lb cb:Nat) (lv:Lv) (kv qv:Option Nat) (b p:Nat):Prop:=w.heap[lb]? = some (.cells #[.pointer (some ⟨cb,0,none⟩),.int .i64 (lv.nb:Nat),.int .u32 (lv.nn:Nat),.map kv,.map lv.tk,.map qv,.int .i64 (b:Nat),.int .i64 (p:Nat)] 132 (0,0))
namespace LogAt
variable {w:World} {lb cb:Nat} {lv:Lv} {kv qv:Option Nat} {b p:Nat}
theorem lt (h:LogAt w lb cb lv kv qv b p):lb<w.heap.size:=lt_of_heap h
theorem of_block {w':World} (h:LogAt w lb cb lv kv qv b p) (e:w'.heap[lb]? = w.heap[lb]?):LogAt w' lb cb lv kv qv b p:=e.trans h
theorem c0 (h:LogAt w lb cb lv kv qv b p):w.cell? ⟨lb,0,none⟩=some (.pointer (some ⟨cb,0,none⟩)):=by rw [cell_of_row w lb 0 _ 132 (0,0) h];rfl
theorem n0 (h:LogAt w lb cb lv kv qv b p):w.cell? ⟨lb,1,none⟩=some (.int .i64 (lv.nb:Nat)):=by rw [cell_of_row w lb 1 _ 132 (0,0) h];rfl
theorem n1 (h:LogAt w lb cb lv kv qv b p):w.cell? ⟨lb,2,none⟩=some (.int .u32 (lv.nn:Nat)):=by rw [cell_of_row w lb 2 _ 132 (0,0) h];rfl
theorem c2 (h:LogAt w lb cb lv kv qv b p):w.cell? ⟨lb,3,none⟩=some (.map kv):=by rw [cell_of_row w lb 3 _ 132 (0,0) h];rfl
theorem t4 (h:LogAt w lb cb lv kv qv b p):w.cell? ⟨lb,4,none⟩=some (.map lv.tk):=by rw [cell_of_row w lb 4 _ 132 (0,0) h];rfl
theorem c3 (h:LogAt w lb cb lv kv qv b p):w.cell? ⟨lb,5,none⟩=some (.map qv):=by rw [cell_of_row w lb 5 _ 132 (0,0) h];rfl
theorem c4 (h:LogAt w lb cb lv kv qv b p):w.cell? ⟨lb,6,none⟩=some (.int .i64 (b:Nat)):=by rw [cell_of_row w lb 6 _ 132 (0,0) h];rfl
theorem c5 (h:LogAt w lb cb lv kv qv b p):w.cell? ⟨lb,7,none⟩=some (.int .i64 (p:Nat)):=by rw [cell_of_row w lb 7 _ 132 (0,0) h];rfl
theorem fz (h:LogAt w lb cb lv kv qv b p) (k:Nat):w.frozen? ⟨lb,k,none⟩=false:=frozen_of_row w lb k _ 132 h
theorem set2 (h:LogAt w lb cb lv kv qv b p) (x:Option Nat):LogAt (w.setCell ⟨lb,3,none⟩ (.map x)) lb cb lv x qv b p:=heap_setCell_same w lb 3 _ 132 (.map x) h
theorem setT (h:LogAt w lb cb lv kv qv b p) (x:Option Nat):LogAt (w.setCell ⟨lb,4,none⟩ (.map x)) lb cb ⟨lv.nb,lv.nn,x⟩ kv qv b p:=heap_setCell_same w lb 4 _ 132 (.map x) h
theorem set4 (h:LogAt w lb cb lv kv qv b p) (x:Nat):LogAt (w.setCell ⟨lb,6,none⟩ (.int .i64 (x:Nat))) lb cb lv kv qv x p:=heap_setCell_same w lb 6 _ 132 _ h
theorem set5 (h:LogAt w lb cb lv kv qv b p) (x:Nat):LogAt (w.setCell ⟨lb,7,none⟩ (.int .i64 (x:Nat))) lb cb lv kv qv b x:=heap_setCell_same w lb 7 _ 132 _ h
end LogAt
def Apart (v:Option Nat) (lo hi lb:Nat):Prop:=∀ g,v=some g→g≠lb∧¬(lo≤g∧g<hi)
theorem BlV.of_blocks {w w':World} {v:Option Nat} {n:Nat} {S:Nat→Bool} (h:BlV w v n S) (e:∀ g,v=some g→g<w.heap.size→w'.heap[g]? = w.heap[g]?):BlV w' v n S:=by
 rcases h with ⟨rfl,h⟩ | ⟨b,rfl,h⟩
 ·exact .inl ⟨rfl,h⟩
 exact .inr ⟨b,rfl,h.of_block (e b rfl h.lt)⟩
structure LogM (w:World) (lo hi cb lb:Nat) (L:Loc) (lv:Lv) (kv qv:Option Nat) (nk nq:Nat) (m:M) (K Q:Nat→Bool) (b p:Nat):Prop where
 log:LogAt w lb cb lv kv qv b p
 chip:CP w lo hi cb L m
 wf:WF m
 kept:BlV w kv nk K
 clean:BlV w qv nq Q
 ak:Apart kv lo hi lb
 aq:Apart qv lo hi lb
 kq:∀ g,kv=some g→qv≠some g
 al:¬(lo≤lb∧lb<hi)
 sz:hi≤w.heap.size
def LogS (lo hi lb:Nat) (kv qv:Option Nat) (k:Nat):Prop:=(lo≤k∧k<hi)∨k=lb∨kv=some k∨qv=some k
namespace LogM
variable {w w':World} {lo hi cb lb:Nat} {L:Loc} {lv:Lv} {kv qv:Option Nat} {nk nq:Nat} {m m':M} {K Q:Nat→Bool} {b p:Nat}
theorem of_blocks (h:LogM w lo hi cb lb L lv kv qv nk nq m K Q b p) (hs:hi≤w'.heap.size) (e:∀ k,LogS lo hi lb kv qv k→k<w.heap.size→w'.heap[k]? = w.heap[k]?):LogM w' lo hi cb lb L lv kv qv nk nq m K Q b p:=
 ⟨h.log.of_block (e lb (.inr (.inl rfl)) h.log.lt),MemX.of_blocks h.chip fun k h1 h2=>e k (.inl ⟨h1,h2⟩) (Nat.lt_of_lt_of_le h2 h.sz),h.wf,h.kept.of_blocks fun g hg hl=>e g (.inr (.inr (.inl hg))) hl,h.clean.of_blocks fun g hg hl=>e g (.inr (.inr (.inr hg))) hl,h.ak,h.aq,h.kq,h.al,hs⟩
theorem new (h:LogM w lo hi cb lb L lv kv qv nk nq m K Q b p) (hb:Below w.heap.size w w'):LogM w' lo hi cb lb L lv kv qv nk nq m K Q b p:=
 h.of_blocks (Nat.le_trans h.sz hb.size) fun k _ hk=>hb.block k hk
theorem drew (h:LogM w lo hi cb lb L lv kv qv nk nq m K Q b p):LogM w.drew lo hi cb lb L lv kv qv nk nq m K Q b p:=h.of_blocks h.sz fun k _ hk=>rfl
theorem field (h:LogM w lo hi cb lb L lv kv qv nk nq m K Q b p) {o:Nat} {x:Value} {lv':Lv} {b' p':Nat} (hl:LogAt (w.setCell ⟨lb,o,none⟩ x) lb cb lv' kv qv b' p'):LogM (w.setCell ⟨lb,o,none⟩ x) lo hi cb lb L lv' kv qv nk nq m K Q b' p':=by
 have e:∀ k,k≠lb→(w.setCell ⟨lb,o,none⟩ x).heap[k]? = w.heap[k]? := fun k hk=>Below.heap_setCell w ⟨lb,o,none⟩ x k hk
 exact ⟨hl,MemX.of_blocks h.chip fun k h1 h2=>e k (fun e'=>h.al (by subst e';exact ⟨h1,h2⟩)),h.wf,h.kept.of_blocks fun g hg _=>e g (h.ak g hg).1,h.clean.of_blocks fun g hg _=>e g (h.aq g hg).1,h.ak,h.aq,h.kq,h.al,by have:=h.sz;simpa using this⟩
theorem set4 (h:LogM w lo hi cb lb L lv kv qv nk nq m K Q b p) (x:Nat):LogM (w.setCell ⟨lb,6,none⟩ (.int .i64 (x:Nat))) lo hi cb lb L lv kv qv nk nq m K Q x p:=h.field (h.log.set4 x)
theorem set5 (h:LogM w lo hi cb lb L lv kv qv nk nq m K Q b p) (x:Nat):LogM (w.setCell ⟨lb,7,none⟩ (.int .i64 (x:Nat))) lo hi cb lb L lv kv qv nk nq m K Q b x:=h.field (h.log.set5 x)
theorem turn (h:LogM w lo hi cb lb L lv kv qv nk nq m K Q b p) (hc:CP w' lo hi cb L m') (hw:WF m') (ho:Only lo hi w w'):LogM w' lo hi cb lb L lv kv qv nk nq m' K Q b p:=
 ⟨h.log.of_block (ho.block lb h.log.lt h.al),hc,hw,h.kept.of_blocks fun g hg hl=>ho.block g hl (h.ak g hg).2,h.clean.of_blocks fun g hg hl=>ho.block g hl (h.aq g hg).2,h.ak,h.aq,h.kq,h.al,Nat.le_trans h.sz ho.size⟩
theorem qset {g:Nat} (h:LogM w lo hi cb lb L lv kv (some g) nk nq m K Q b p) {nq':Nat} {Q':Nat→Bool} (hq:BlAt w' g nq' Q') (hm:w.mapTurned w' g):LogM w' lo hi cb lb L lv kv (some g) nk nq' m K Q' b p:=by
 have e:∀ k,k<w.heap.size→k≠g→w'.heap[k]? = w.heap[k]? := fun k hk hn=>hm.grown.block k hk (fun e=>by cases e;exact hn rfl)
 have hg:=h.aq g rfl;exact ⟨h.log.of_block (e lb h.log.lt (fun e=>hg.1 e.symm)),MemX.of_blocks h.chip fun k h1 h2=>e k (Nat.lt_of_lt_of_le h2 h.sz) (fun e'=>hg.2 (by subst e';exact ⟨h1,h2⟩)),h.wf,h.kept.of_blocks fun g' hg' hl=>e g' hl (fun e'=>h.kq g' hg' (by rw [e'])),.inr ⟨g,rfl,hq⟩,h.ak,h.aq,h.kq,h.al,Nat.le_trans h.sz hm.grown.size⟩
theorem del (h:LogM w lo hi cb lb L lv kv qv nk nq m K Q b p) {i:Nat} (hi':i≤1000000):∃ V,(Builtin.delete_ #[92,3] 0 #[.map qv,.int .i64 (i:Nat)]).run Tryz.prog w=.ok (.tuple #[]) V∧LogM V lo hi cb lb L lv kv qv nk nq m K (fun j => !(j==i)&&Q j) b p∧Fm (LogS lo hi lb kv qv) w V:=by
 rcases h.clean with ⟨rfl,hn⟩ | ⟨g,rfl,hg⟩
 ·refine ⟨w,Maps.drop_nil law3 Tryz.underlying92 (key3 hi') 0,⟨h.log,h.chip,h.wf,h.kept,.inl ⟨rfl,fun j=>by simp [hn j]⟩,h.ak,h.aq,h.kq,h.al,h.sz⟩,Fm.refl _ _⟩
 obtain ⟨V,h1,h2,h3⟩:=hg.drop hi' 0;exact ⟨V,h1,h.qset h2 h3,(Fm.refl _ _).map (fun _=>.inr (.inr (.inr rfl))) h3⟩
end LogM
def openF (m:M) (K Q:Nat→Bool) (b:Nat):Bool × M × (Nat→Bool) × Nat:=
 if K ((b+1)%m.nb) then (false,m,Q,m.np)
 else if Q ((b+1)%m.nb) then (true,m,(fun j => !(j==(b+1)%m.nb)&&Q j),0)
 else if (eraA m (((b+1)%m.nb:Nat):Int)).1 then (true,(eraA m (((b+1)%m.nb:Nat):Int)).2,(fun j => !(j==(b+1)%m.nb)&&Q j),0)
 else (false,(eraA m (((b+1)%m.nb:Nat):Int)).2,Q,m.np)
end S1
end Go.Proofs.YtodmdkhdbfbfgaaGreatDoor
