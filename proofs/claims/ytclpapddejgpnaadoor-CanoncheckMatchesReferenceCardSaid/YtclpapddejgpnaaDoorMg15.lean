/- The texts TrimN2, TrimN3, Can, Can3, Write, WriteB, Ref13, Ref14 (what is wanted of them), one after the other. -/
import Derived.Test.YtclpapddejgpnaaDoorMg13
namespace Go.Proofs.YtclpapddejgpnaaDoor
open Go.ChangeShapes Go.WideShapes Go.ChangeAt Go.RowKit
set_option linter.unusedVariables false
set_option linter.unusedSimpArgs false
set_option maxRecDepth 100000
theorem wordsF_iff (d:List Int)(m:Nat):∀i,wordsF d i≤m↔∀t,t<i→zat d t≠0→t / 8+1≤m
 | 0=>by simp [wordsF]
 | i+1=>by
  have ih:=wordsF_iff d m i
  unfold wordsF
  by_cases h:zat d i=0
  ·rw [if_pos h,ih]
   constructor
   ·intro g t ht hz
    rcases Nat.lt_or_ge t i with h1|h1
    ·exact g t h1 hz
    ·obtain rfl:t=i:=by omega
     exact absurd h hz
   ·intro g t ht hz
    exact g t (by omega) hz
  ·rw [if_neg h]
   constructor
   ·intro g t ht hz
    have:t / 8≤i / 8:=Nat.div_le_div_right (by omega)
    omega
   ·intro g
    exact g i (by omega) h
theorem ptrsF_iff (ks:List Nd)(m:Nat):∀i,ptrsF ks i≤m↔∀t,t<i→kAt ks t≠0→t+1≤m
 | 0=>by simp [ptrsF]
 | i+1=>by
  have ih:=ptrsF_iff ks m i
  unfold ptrsF
  by_cases h:kAt ks i=0
  ·rw [if_pos h,ih]
   constructor
   ·intro g t ht hz
    rcases Nat.lt_or_ge t i with h1|h1
    ·exact g t h1 hz
    ·obtain rfl:t=i:=by omega
     exact absurd h hz
   ·intro g t ht hz
    exact g t (by omega) hz
  ·rw [if_neg h]
   constructor
   ·intro g t ht hz
    omega
   ·intro g
    exact g i (by omega) h
theorem wordsT_iff (d:List Int)(m:Nat):wordsT d≤m↔∀t,t<d.length→zat d t≠0→t / 8+1≤m:=wordsF_iff d m d.length
theorem ptrsT_iff (ks:List Nd)(m:Nat):ptrsT ks≤m↔∀t,t<ks.length→kAt ks t≠0→t+1≤m:=ptrsF_iff ks m ks.length
theorem wordsT_at {d:List Int}{t:Nat}(ht:t<d.length)(hz:zat d t≠0):t / 8+1≤wordsT d:=(wordsT_iff d _).1 (Nat.le_refl _) t ht hz
theorem ptrsT_at {ks:List Nd}{t:Nat}(ht:t<ks.length)(hz:kAt ks t≠0):t+1≤ptrsT ks:=(ptrsT_iff ks _).1 (Nat.le_refl _) t ht hz
theorem wordsT_take (d:List Int):wordsT (d.take (8*wordsT d))=wordsT d:=by
 apply Nat.le_antisymm
 ·rw [wordsT_iff]
  intro t ht hz
  rw [List.length_take] at ht
  rw [zat_take _ _ _ (by omega)] at hz
  exact wordsT_at (by omega) hz
 ·rw [wordsT_iff]
  intro t ht hz
  have h1:=wordsT_at ht hz
  have h2:t<8*wordsT d:=by omega
  exact wordsT_at (by rw [List.length_take];omega) (by rw [zat_take _ _ _ h2];exact hz)
theorem kAt_trim (ks:List Nd)(t:Nat):kAt (trimK ks) t=kAt ks t:=by
 unfold kAt
 rw [trimK_map,List.getElem?_map]
 cases ks[t]? with
 | none=>rfl
 | some x=>simp [trimN_k]
theorem kAt_take {ks:List Nd}{t n:Nat}(h:t<n):kAt (ks.take n) t=kAt ks t:=by
 unfold kAt
 rw [List.getElem?_take]
 simp [h]
theorem ptrsT_trim (ks:List Nd):ptrsT ((trimK ks).take (ptrsT ks))=ptrsT ks:=by
 have hl:=ptrsT_le ks
 apply Nat.le_antisymm
 ·rw [ptrsT_iff]
  intro t ht hz
  rw [List.length_take,trimK_length] at ht
  omega
 ·rw [ptrsT_iff]
  intro t ht hz
  have h1:=ptrsT_at ht hz
  exact ptrsT_at (by rw [List.length_take,trimK_length];omega) (by rw [kAt_take (by omega),kAt_trim];exact hz)
theorem trimmedK_all {l:List Nd}(h:∀x∈l,trimmedN x=true):trimmedK l=true:=by
 induction l with
 | nil=>rfl
 | cons x xs ih=>
  simp only [trimmedK,h x (List.mem_cons_self ..),ih fun y hy=>h y (List.mem_cons_of_mem _ hy)]
  rfl
theorem validK_mem {k e:Int}{ks:List Nd}(h:validK k e ks=true){y:Nd}(hy:y∈ks):validN y=true∧¬(k=2∧e=7∧y.k≠1):=by
 obtain⟨j,hj,rfl⟩:=List.getElem_of_mem hy
 rcases Bool.eq_false_or_eq_true (validN ks[j]&&!(decide (k=2∧e=7∧(ks[j]).k≠1))) with h3|h3
 ·simp only [Bool.and_eq_true,Bool.not_eq_true',decide_eq_false_iff_not] at h3
  exact h3
 ·rw [validK_no k e ks j hj h3] at h
  cases h
theorem validK_all {k e:Int}{ks:List Nd}(h:∀y∈ks,validN y=true∧¬(k=2∧e=7∧y.k≠1)):validK k e ks=true:=by
 induction ks with
 | nil=>rfl
 | cons x xs ih=>
  obtain⟨h1,h2⟩:=h x (List.mem_cons_self ..)
  simp only [validK,h1,ih fun y hy=>h y (List.mem_cons_of_mem _ hy),decide_eq_false h2]
  rfl
theorem valid_struct {k e n:Int}{d:List Int}{ks:List Nd}(h:validN (.mk k e n d ks)=true)(hk:k=1):d.length % 8=0:=by
 simp only [validN,Bool.and_eq_true] at h
 have h2:=h.2
 unfold headB at h2
 rw [if_neg (by omega),if_pos hk,decide_eq_true_iff] at h2
 exact h2.2.2.1
theorem trimmed_trim:∀x:Nd,validN x=true→trimmedN (trimN x)=true:=Nd.ind (by
 intro k e n d ks ih h
 have hk:=(by simp only [validN,Bool.and_eq_true] at h;exact h.1:validK k e ks=true)
 have hall:∀y∈trimK ks,trimmedN y=true:=by
  intro y hy
  rw [trimK_map,List.mem_map] at hy
  obtain⟨z,hz,rfl⟩:=hy
  exact ih z hz (validK_mem hk hz).1
 simp only [trimN,trimmedN,Bool.and_eq_true,decide_eq_true_eq]
 by_cases h1:k=1
 ·rw [if_pos h1,if_pos h1]
  refine⟨fun _=>⟨?_,?_⟩,trimmedK_all fun y hy=>hall y (List.mem_of_mem_take hy)⟩
  ·rw [wordsT_take,List.length_take]
   have:=wordsT_le d (valid_struct h h1)
   omega
  ·rw [ptrsT_trim,List.length_take,trimK_length]
   have:=ptrsT_le ks
   omega
 ·rw [if_neg h1,if_neg h1]
  exact⟨fun h=>absurd h h1,trimmedK_all hall⟩)
theorem valid_trim:∀x:Nd,validN x=true→validN (trimN x)=true:=Nd.ind (by
 intro k e n d ks ih h
 have h':=h
 simp only [validN,Bool.and_eq_true] at h'
 obtain⟨hk,hh⟩:=h'
 have hall:∀y∈trimK ks,validN y=true∧¬(k=2∧e=7∧y.k≠1):=by
  intro y hy
  rw [trimK_map,List.mem_map] at hy
  obtain⟨z,hz,rfl⟩:=hy
  have:=validK_mem hk hz
  exact⟨ih z hz this.1,by rw [trimN_k];exact this.2⟩
 simp only [trimN,validN,Bool.and_eq_true]
 by_cases h1:k=1
 ·rw [if_pos h1,if_pos h1]
  refine⟨validK_all fun y hy=>hall y (List.mem_of_mem_take hy),?_⟩
  unfold headB at hh ⊢
  rw [if_neg (by omega),if_pos h1,decide_eq_true_iff] at hh ⊢
  obtain⟨g1,g2,g3,g4,g5⟩:=hh
  have:=wordsT_le d g3
  have:=ptrsT_le ks
  refine⟨g1,g2,?_,?_,?_⟩
  ·rw [List.length_take];omega
  ·rw [List.length_take];omega
  ·rw [List.length_take,trimK_length];omega
 ·rw [if_neg h1,if_neg h1]
  refine⟨validK_all hall,?_⟩
  unfold headB at hh ⊢
  rw [trimK_length]
  exact hh)
theorem depth_null {x:Nd}(h:x.k=0):depthN x=0:=by rw [depthN_eq,if_pos h]
theorem depthK_nulls {l:List Nd}(h:∀x∈l,x.k=0):depthK l=0:=by
 induction l with
 | nil=>rfl
 | cons x xs ih=>simp only [depthK,depth_null (h x (List.mem_cons_self ..)),ih fun y hy=>h y (List.mem_cons_of_mem _ hy)];rfl
theorem drop_nulls {ks:List Nd}:∀x∈ks.drop (ptrsT ks),x.k=0:=by
 intro x hx
 obtain⟨j,hj,rfl⟩:=List.getElem_of_mem hx
 rw [List.length_drop] at hj
 rw [List.getElem_drop]
 by_cases h:(ks[ptrsT ks+j]).k=0
 ·exact h
 ·have:=ptrsT_at (ks:=ks) (t:=ptrsT ks+j) (by omega) (by rw [kAt_get (by omega)];exact h)
  omega
theorem depthK_trim {ks:List Nd}(ih:∀x∈ks,depthN (trimN x)=depthN x):depthK (trimK ks)=depthK ks:=by
 induction ks with
 | nil=>rfl
 | cons x xs ih2=>simp only [trimK,depthK,ih x (List.mem_cons_self ..),ih2 fun y hy=>ih y (List.mem_cons_of_mem _ hy)]
theorem trim_drop_nulls (ks:List Nd):∀x∈(trimK ks).drop (ptrsT ks),x.k=0:=by
 intro x hx
 rw [trimK_map,←List.map_drop,List.mem_map] at hx
 obtain⟨y,hy,rfl⟩:=hx
 rw [trimN_k]
 exact drop_nulls y hy
theorem depthK_cut (ks:List Nd):depthK ((trimK ks).take (ptrsT ks))=depthK (trimK ks):=by
 have h:=depthK_append ((trimK ks).take (ptrsT ks)) ((trimK ks).drop (ptrsT ks))
 rw [List.take_append_drop,depthK_nulls (trim_drop_nulls ks)] at h
 omega
theorem trim_kids_depth (x:Nd)(ih:∀y∈x.ks,depthN (trimN y)=depthN y):depthK (trimN x).ks=depthK x.ks:=by
 obtain⟨k,e,n,d,ks⟩:=x
 simp only [trimN,Nd.ks] at *
 split
 ·rw [depthK_cut,depthK_trim ih]
 ·exact depthK_trim ih
theorem depthG_ks (l:List Nd):depthG l=(l.map fun x=>depthK x.ks).foldr max 0:=by
 induction l with
 | nil=>rfl
 | cons x xs ih=>obtain⟨k,e,n,d,ks⟩:=x;simp only [depthG,ih,List.map_cons,List.foldr_cons,Nd.ks]
theorem kid_kid_lt {x y z:Nd}(hy:y∈x.ks)(hz:z∈y.ks):sizeN z<sizeN x:=by
 have h1:=sizeN_kid hy
 have h2:=sizeN_kid hz
 have h3:=sizeK_ks x
 have h4:=sizeK_ks y
 omega
theorem kid_lt {x y:Nd}(hy:y∈x.ks):sizeN y<sizeN x:=by
 have h1:=sizeN_kid hy
 have h3:=sizeK_ks x
 omega
theorem depth_trim:∀x:Nd,depthN (trimN x)=depthN x:=size_ind (by
 intro x ih
 have hkids:=trim_kids_depth x fun y hy=>ih y (kid_lt hy)
 have hG:depthG (trimK x.ks)=depthG x.ks:=by
  rw [depthG_ks,depthG_ks,trimK_map,List.map_map]
  congr 1
  apply List.map_congr_left
  intro y hy
  exact trim_kids_depth y fun z hz=>ih z (kid_kid_lt hy hz)
 obtain⟨k,e,n,d,ks⟩:=x
 simp only [trimN,Nd.ks] at hkids hG
 simp only [trimN,depthN]
 by_cases h2:k=2∧e=7
 ·have h1:¬k=1:=by omega
  rw [if_neg h1,if_pos h2,if_pos h2,hG]
 ·rw [if_neg h2,if_neg h2,hkids])
theorem size_trim:∀x:Nd,sizeN (trimN x)≤sizeN x:=Nd.ind (by
 intro k e n d ks ih
 have hk:sizeK (trimK ks)≤sizeK ks:=by
  clear d
  induction ks with
  | nil=>simp [trimK,sizeK]
  | cons x xs ih2=>
   have h1:=ih x (List.mem_cons_self ..)
   have h2:=ih2 fun y hy=>ih y (List.mem_cons_of_mem _ hy)
   simp only [trimK,sizeK]
   omega
 simp only [trimN,sizeN]
 have h1:=sizeK_take_le (trimK ks) (ptrsT ks)
 have h2:(d.take (8*wordsT d)).length≤d.length:=by rw [List.length_take];omega
 split<;>omega)
theorem uniD_covers (ks:List Nd)(h8:∀y∈ks,y.d.length % 8=0):∀i,i≤ks.length→∀j (hj:j<ks.length),j<i→(ks[j]).d.length≤8*uniD ks i
 | 0,_,j,_,h=>by omega
 | i+1,hi,j,hj,h=>by
  rw [uniD_succ (by omega)]
  have h1:=h8 ks[j] (List.getElem_mem hj)
  by_cases e:j=i
  ·subst e;omega
  ·have:=uniD_covers ks h8 i (by omega) j hj (by omega)
   omega
theorem uniP_covers (ks:List Nd):∀i,i≤ks.length→∀j (hj:j<ks.length),j<i→(ks[j]).ks.length≤uniP ks i
 | 0,_,j,_,h=>by omega
 | i+1,hi,j,hj,h=>by
  rw [uniP_succ (by omega)]
  by_cases e:j=i
  ·subst e;omega
  ·have:=uniP_covers ks i (by omega) j hj (by omega)
   omega
theorem uniD_attained (ks:List Nd)(h8:∀y∈ks,y.d.length % 8=0):∀i,i≤ks.length→0<i→∃j,∃hj:j<ks.length,j<i∧(ks[j]).d.length=8*uniD ks i
 | 0,_,h=>by omega
 | i+1,hi,h=>by
  rw [uniD_succ (by omega)]
  have h1:=h8 ks[i] (List.getElem_mem (by omega))
  by_cases hc:uniD ks i≤(ks[i]).d.length / 8
  ·exact⟨i,by omega,by omega,by omega⟩
  ·by_cases hz:i=0
   ·subst hz;simp [uniD] at hc
   ·obtain⟨j,hj,h2,h3⟩:=uniD_attained ks h8 i (by omega) (by omega)
    exact⟨j,hj,by omega,by omega⟩
theorem uniP_attained (ks:List Nd):∀i,i≤ks.length→0<i→∃j,∃hj:j<ks.length,j<i∧(ks[j]).ks.length=uniP ks i
 | 0,_,h=>by omega
 | i+1,hi,h=>by
  rw [uniP_succ (by omega)]
  by_cases hc:uniP ks i≤(ks[i]).ks.length
  ·exact⟨i,by omega,by omega,by omega⟩
  ·by_cases hz:i=0
   ·subst hz;simp [uniP] at hc
   ·obtain⟨j,hj,h2,h3⟩:=uniP_attained ks i (by omega) (by omega)
    exact⟨j,hj,by omega,by omega⟩
theorem uniD_le (ks:List Nd)(m:Nat):∀i,i≤ks.length→(∀y∈ks,y.d.length / 8≤m)→uniD ks i≤m
 | 0,_,_=>by simp [uniD]
 | i+1,hi,h=>by
  rw [uniD_succ (by omega)]
  have:=uniD_le ks m i (by omega) h
  have:=h ks[i] (List.getElem_mem (by omega))
  omega
theorem uniP_le (ks:List Nd)(m:Nat):∀i,i≤ks.length→(∀y∈ks,y.ks.length≤m)→uniP ks i≤m
 | 0,_,_=>by simp [uniP]
 | i+1,hi,h=>by
  rw [uniP_succ (by omega)]
  have:=uniP_le ks m i (by omega) h
  have:=h ks[i] (List.getElem_mem (by omega))
  omega
theorem trimN_d_le (x:Nd):(trimN x).d.length≤x.d.length:=by
 obtain⟨k,e,n,d,ks⟩:=x
 simp only [trimN,Nd.d]
 split
 ·rw [List.length_take];omega
 ·exact Nat.le_refl _
theorem trimN_ks_le (x:Nd):(trimN x).ks.length≤x.ks.length:=by
 obtain⟨k,e,n,d,ks⟩:=x
 simp only [trimN,Nd.ks]
 split
 ·rw [List.length_take,trimK_length];omega
 ·rw [trimK_length];exact Nat.le_refl _
theorem wordsT_zeros (d:List Int)(n:Nat):wordsT (d++List.replicate n 0)=wordsT d:=by
 refine Nat.le_antisymm ?_ ?_
 ·refine(wordsT_iff _ _).2 fun t ht hz=>?_
  by_cases h:t<d.length
  ·have e:zat (d++List.replicate n 0) t=zat d t:=by simp [zat,List.getD,List.getElem?_append_left h]
   exact wordsT_at h (by rw [←e];exact hz)
  ·refine absurd ?_ hz
   rw [List.length_append,List.length_replicate] at ht
   simp [zat,List.getD,List.getElem?_append_right (Nat.le_of_not_lt h)]
   rw [List.getElem?_replicate]
   split<;>rfl
 ·refine(wordsT_iff _ _).2 fun t ht hz=>?_
  have e:zat (d++List.replicate n 0) t=zat d t:=by simp [zat,List.getD,List.getElem?_append_left ht]
  exact wordsT_at (by rw [List.length_append];omega) (by rw [e];exact hz)
theorem ptrsT_nulls (ks ms:List Nd)(hm:∀y∈ms,y.k=0):ptrsT (ks++ms)=ptrsT ks:=by
 refine Nat.le_antisymm ?_ ?_
 ·refine(ptrsT_iff _ _).2 fun t ht hz=>?_
  by_cases h:t<ks.length
  ·have e:kAt (ks++ms) t=kAt ks t:=by simp [kAt,List.getElem?_append_left h]
   exact ptrsT_at h (by rw [←e];exact hz)
  ·refine absurd ?_ hz
   rw [List.length_append] at ht
   rw [kAt_get (by rw [List.length_append];exact ht),List.getElem_append_right (Nat.le_of_not_lt h)]
   exact hm _ (List.getElem_mem _)
 ·refine(ptrsT_iff _ _).2 fun t ht hz=>?_
  have e:kAt (ks++ms) t=kAt ks t:=by simp [kAt,List.getElem?_append_left ht]
  exact ptrsT_at (by rw [List.length_append];omega) (by rw [e];exact hz)
def canOf (k e n:Int)(d:List Int)(ks:List Nd):Int:=
 if k=0 then 0
 else if k=1 then ((d.length / 8+ks.length:Nat):Int)
 else if e=7 then 1+n*((uniD ks ks.length+uniP ks ks.length:Nat):Int)
 else wordsI e n
def canO (x:Nd):Int:=canOf x.k x.e x.n x.d x.ks
mutual
def canN:Nd→Int
 | .mk k e n d ks=>canOf k e n d ks+if k=2∧e=7 then canG ks else canK ks
def canK:List Nd→Int
 | []=>0
 | x::xs=>canN x+canK xs
def canG:List Nd→Int
 | []=>0
 | .mk _ _ _ _ ks::xs=>canK ks+canG xs
end
theorem canK_append (a b:List Nd):canK (a++b)=canK a+canK b:=by
 induction a with
 | nil=>simp [canK]
 | cons x xs ih=>simp only [List.cons_append,canK,ih];omega
theorem canG_kk (l:List Nd):canG l=canK (kk l):=by
 induction l with
 | nil=>simp [canG,kk,canK]
 | cons x xs ih=>
  obtain⟨k,e,n,d,ks⟩:=x
  have h:kk (.mk k e n d ks::xs)=ks++kk xs:=by simp [kk,Nd.ks]
  rw [h,canK_append]
  simp only [canG,ih]
theorem canN_eq (x:Nd):canN x=canO x+canK (targN x):=by
 obtain⟨k,e,n,d,ks⟩:=x
 simp only [canN,targN,canO,Nd.k,Nd.e,Nd.n,Nd.d,Nd.ks]
 by_cases h:k=2∧e=7
 ·rw [if_pos h,if_pos h,canG_kk]
 ·rw [if_neg h,if_neg h]
theorem canK_take (l:List Nd)(j:Nat)(h:j<l.length):canK (l.take (j+1))=canK (l.take j)+canN l[j]:=by
 rw [List.take_succ_eq_append_getElem h,canK_append]
 simp [canK]
theorem valid_k {x:Nd}(h:validN x=true):x.k=0∨x.k=1∨x.k=2:=by
 obtain⟨k,e,n,d,ks⟩:=x
 have h2:headB k e n d ks=true:=by
  simp only [validN,Bool.and_eq_true] at h
  exact h.2
 unfold headB at h2
 show k=0∨k=1∨k=2
 split at h2
 ·exact .inl (by assumption)
 ·split at h2
  ·exact .inr (.inl (by assumption))
  ·split at h2
   ·exact .inr (.inr (by assumption))
   ·cases h2
theorem valid_head {k e n:Int}{d:List Int}{ks:List Nd}(h:validN (.mk k e n d ks)=true):
  (k=0∧d.length=0∧ks.length=0)∨(k=1∧d.length % 8=0∧d.length≤524280∧ks.length≤65535)∨(k=2∧0≤n∧n≤536870911∧0≤e∧e≤7∧(6≤e→d.length=0∧(ks.length:Int)=n)∧(e<6→ks.length=0∧(d.length:Int)=bytesI e n)):=by
 simp only [validN,Bool.and_eq_true] at h
 have h2:=h.2
 unfold headB at h2
 by_cases h0:k=0
 ·rw [if_pos h0,decide_eq_true_iff] at h2
  exact .inl ⟨h0,h2.2.2⟩
 rw [if_neg h0] at h2
 by_cases h1:k=1
 ·rw [if_pos h1,decide_eq_true_iff] at h2
  exact .inr (.inl ⟨h1,h2.2.2⟩)
 rw [if_neg h1] at h2
 by_cases h3:k=2
 ·rw [if_pos h3,decide_eq_true_iff] at h2
  exact .inr (.inr ⟨h3,h2.1,h2.2.1,h2.2.2.1,h2.2.2.2.1,h2.2.2.2.2.1,fun h=>⟨(h2.2.2.2.2.2 h).1,(h2.2.2.2.2.2 h).2.1⟩⟩)
 ·rw [if_neg h3] at h2
  cases h2
theorem valid_mem {k e n:Int}{d:List Int}{ks:List Nd}(h:validN (.mk k e n d ks)=true){y:Nd}(hy:y∈ks):validN y=true∧¬(k=2∧e=7∧y.k≠1):=by
 simp only [validN,Bool.and_eq_true] at h
 exact validK_mem h.1 hy
theorem valid_elem {n:Int}{d:List Int}{ks:List Nd}(h:validN (.mk 2 7 n d ks)=true){y:Nd}(hy:y∈ks):y.k=1∧y.d.length / 8≤65535∧y.ks.length≤65535:=by
 obtain⟨h1,h2⟩:=valid_mem h hy
 have hk:y.k=1:=Classical.byContradiction fun h3=>h2 ⟨rfl,rfl,h3⟩
 obtain⟨k,e,n',d',ks'⟩:=y
 simp only [Nd.k] at hk
 rcases valid_head h1 with h3|h3|h3
 ·omega
 ·exact⟨hk,by show d'.length / 8≤65535;omega,h3.2.2.2⟩
 ·omega
theorem uni_bd {n:Int}{d:List Int}{ks:List Nd}(h:validN (.mk 2 7 n d ks)=true):uniD ks ks.length≤65535∧uniP ks ks.length≤65535:=
 ⟨uniD_le ks 65535 ks.length (Nat.le_refl _) fun y hy=>(valid_elem h hy).2.1,uniP_le ks 65535 ks.length (Nat.le_refl _) fun y hy=>(valid_elem h hy).2.2⟩
theorem sizeK_kk2 (l:List Nd):sizeK (kk l)+l.length≤sizeK l:=by
 induction l with
 | nil=>simp [kk,sizeK]
 | cons x xs ih=>
  have h:kk (x::xs)=x.ks++kk xs:=by simp [kk]
  have h2:=sizeK_ks x
  have h3:sizeK (x.ks++kk xs)=sizeK x.ks+sizeK (kk xs):=by
   generalize x.ks=a
   induction a with
   | nil=>simp [sizeK]
   | cons y ys ih2=>simp only [List.cons_append,sizeK,ih2];omega
  rw [h,h3]
  simp only [sizeK,List.length_cons]
  omega
theorem targN_mk (k e n:Int)(d:List Int)(ks:List Nd):targN (.mk k e n d ks)=if k=2∧e=7 then kk ks else ks:=rfl
theorem canO_size {x:Nd}(h:validN x=true):0≤canO x∧canO x≤131071*((sizeN x:Int)-sizeK (targN x))-1+(targN x).length:=by
 obtain⟨k,e,n,d,ks⟩:=x
 have hs:sizeN (.mk k e n d ks)=1+d.length+sizeK ks:=by simp [sizeN]
 have ht:=sizeK_targ (.mk k e n d ks)
 have hk:=sizeK_length ks
 show 0≤canOf k e n d ks∧canOf k e n d ks≤_
 unfold canOf
 rcases valid_head h with ⟨rfl,h1,h2⟩|⟨rfl,h1,h2,h3⟩|⟨rfl,h1,h2,h3,h4,h5,h6⟩
 ·rw [if_pos rfl]
  omega
 ·rw [if_neg (by omega),if_pos rfl]
  have e1:targN (.mk 1 e n d ks)=ks:=by rw [targN_mk,if_neg (by omega)]
  rw [e1,hs]
  omega
 ·rw [if_neg (by omega),if_neg (by omega)]
  by_cases h7:e=7
  ·subst h7
   rw [if_pos rfl]
   have e1:targN (.mk 2 7 n d ks)=kk ks:=by rw [targN_mk,if_pos ⟨rfl,rfl⟩]
   have h8:=sizeK_kk2 ks
   obtain⟨u1,u2⟩:=uni_bd h
   obtain⟨-,hn⟩:=h5 (by omega)
   have m1:0≤n*((uniD ks ks.length+uniP ks ks.length:Nat):Int):=Int.mul_nonneg h1 (by omega)
   have m2:n*((uniD ks ks.length+uniP ks ks.length:Nat):Int)≤n*131070:=Int.mul_le_mul_of_nonneg_left (by omega) h1
   rw [e1,hs]
   omega
  ·rw [if_neg h7]
   have e1:targN (.mk 2 e n d ks)=ks:=by rw [targN_mk,if_neg (by omega)]
   have hb:=bitsI_mul e n h1
   rw [e1,hs]
   by_cases h8:e=6
   ·subst h8
    have e3:wordsI 6 n=n:=by unfold wordsI bitsI;simp;omega
    obtain⟨-,hn⟩:=h5 (by omega)
    rw [e3]
    omega
   ·obtain⟨hk0,hd⟩:=h6 (by omega)
    unfold wordsI
    unfold bytesI at hd
    rw [if_neg h7]
    omega
theorem valid_targ {x:Nd}(h:validN x=true):∀y∈targN x,validN y=true:=by
 intro y hy
 obtain⟨k,e,n,d,ks⟩:=x
 rw [targN_mk] at hy
 split at hy
 ·unfold kk at hy
  obtain⟨z,hz,hy⟩:=List.mem_flatMap.1 hy
  have hzv:=(valid_mem h hz).1
  obtain⟨k',e',n',d',ks'⟩:=z
  exact(valid_mem hzv hy).1
 ·exact(valid_mem h hy).1
theorem can_size:∀x:Nd,validN x=true→0≤canN x∧canN x≤131071*(sizeN x:Int)-1:=size_ind (by
 intro x ih h
 have ho:=canO_size h
 have hK:∀l:List Nd,(∀y∈l,0≤canN y∧canN y≤131071*(sizeN y:Int)-1)→0≤canK l∧canK l≤131071*(sizeK l:Int)-l.length:=by
  intro l hl
  induction l with
  | nil=>simp [canK,sizeK]
  | cons y ys ih2=>
   have h1:=hl y (List.mem_cons_self ..)
   have h2:=ih2 (fun z hz=>hl z (List.mem_cons_of_mem _ hz))
   simp only [canK,sizeK,List.length_cons]
   omega
 have hv:=valid_targ h
 have:=hK (targN x) (fun y hy=>ih y (targ_lt hy) (hv y hy))
 rw [canN_eq]
 omega)
def padW (b:List Int)(n:Nat):List Int:=wordsOf (b++List.replicate (8*n-b.length) 0)
def ptrP (x:Nd)(o:Int):Ptr:=
 if x.k=1 then ⟨0,if canO x=0 then -1 else o,((x.d.length / 8:Nat):Int),x.ks.length,0,0,false,0,0,0⟩
 else ⟨1,o,0,0,x.e,if x.e=7 then canO x-1 else x.n,false,0,0,0⟩
def ptrW (x:Nd)(o:Int):Int:=if x.k=0 then 0 else encW (ptrP x o)
def ptrsW (pos nx:Int):List Nd→List Int
 | []=>[]
 | t::ts=>ptrW t (nx-pos-1)::ptrsW (pos+1) (nx+canN t) ts
def elsW (a b:Nat)(pos nx:Int):List Nd→List Int
 | []=>[]
 | y::ys=>padW y.d a++(ptrsW (pos+a) nx (y.ks++List.replicate (b-y.ks.length) nd0)++elsW a b (pos+a+b) (nx+canK y.ks) ys)
def tagW (n:Int)(a b:Nat):Int:=encW ⟨0,n,a,b,0,0,false,0,0,0⟩
def bodyW (k e n:Int)(d:List Int)(ks:List Nd):List Int:=
 if k=0 then []
 else if k=1 then wordsOf d++ptrsW ((d.length / 8:Nat):Int) (canOf k e n d ks) ks
 else if e=7 then tagW n (uniD ks ks.length) (uniP ks ks.length)::elsW (uniD ks ks.length) (uniP ks ks.length) 1 (canOf k e n d ks) ks
 else if e=6 then ptrsW 0 (canOf k e n d ks) ks
 else padW d (wordsI e n).toNat
mutual
def objW:Nd→List Int
 | .mk k e n d ks=>bodyW k e n d ks++if k=2∧e=7 then objG ks else objK ks
def objK:List Nd→List Int
 | []=>[]
 | x::xs=>objW x++objK xs
def objG:List Nd→List Int
 | []=>[]
 | .mk _ _ _ _ ks::xs=>objK ks++objG xs
end
def writeF (x:Nd):List Int:=ptrW x 0::objW x
theorem objK_append (a b:List Nd):objK (a++b)=objK a++objK b:=by
 induction a with
 | nil=>simp [objK]
 | cons x xs ih=>simp only [List.cons_append,objK,ih,List.append_assoc]
theorem objG_kk (l:List Nd):objG l=objK (kk l):=by
 induction l with
 | nil=>simp [objG,kk,objK]
 | cons x xs ih=>
  obtain⟨k,e,n,d,ks⟩:=x
  have h:kk (.mk k e n d ks::xs)=ks++kk xs:=by simp [kk,Nd.ks]
  rw [h,objK_append]
  simp only [objG,ih]
def bodyN (x:Nd):List Int:=bodyW x.k x.e x.n x.d x.ks
theorem objW_eq (x:Nd):objW x=bodyN x++objK (targN x):=by
 obtain⟨k,e,n,d,ks⟩:=x
 simp only [objW,targN,bodyN,Nd.k,Nd.e,Nd.n,Nd.d,Nd.ks]
 by_cases h:k=2∧e=7
 ·rw [if_pos h,if_pos h,objG_kk]
 ·rw [if_neg h,if_neg h]
theorem objK_take (l:List Nd)(j:Nat)(h:j<l.length):objK (l.take (j+1))=objK (l.take j)++objW l[j]:=by
 rw [List.take_succ_eq_append_getElem h,objK_append]
 simp [objK]
theorem objK_nulls (ts:List Nd)(q:Nat):objK (ts++List.replicate q nd0)=objK ts:=by
 rw [objK_append]
 have:∀q,objK (List.replicate q nd0)=[]:=by
  intro q
  induction q with
  | zero=>rfl
  | succ q ih=>rw [List.replicate_succ];show objW nd0++objK (List.replicate q nd0)=[];rw [ih];rfl
 rw [this,List.append_nil]
theorem padW_length {b:List Int}{n:Nat}(h:b.length≤8*n):(padW b n).length=n:=by
 rw [padW,wordsOf_length,List.length_append,List.length_replicate]
 omega
theorem ptrsW_length:∀(ts:List Nd) (pos nx:Int),(ptrsW pos nx ts).length=ts.length
 | [],_,_=>rfl
 | t::ts,pos,nx=>by simp only [ptrsW,List.length_cons,ptrsW_length ts]
theorem elsW_length (a b:Nat):∀(ys:List Nd) (pos nx:Int),(∀y∈ys,y.d.length≤8*a∧y.ks.length≤b)→(elsW a b pos nx ys).length=ys.length*(a+b)
 | [],_,_,_=>by simp [elsW]
 | y::ys,pos,nx,h=>by
  have h1:=h y (List.mem_cons_self ..)
  have ih:=elsW_length a b ys (pos+a+b) (nx+canK y.ks) (fun z hz=>h z (List.mem_cons_of_mem _ hz))
  simp only [elsW,List.length_append,padW_length h1.1,ptrsW_length,List.length_replicate,ih,List.length_cons]
  rw [Nat.add_mul]
  omega
theorem comp_fit {n:Int}{d:List Int}{ks:List Nd}(h:validN (.mk 2 7 n d ks)=true):∀y∈ks,y.d.length≤8*uniD ks ks.length∧y.ks.length≤uniP ks ks.length:=by
 intro y hy
 obtain⟨j,hj,rfl⟩:=List.getElem_of_mem hy
 refine⟨uniD_covers ks (fun z hz=>?_) _ (Nat.le_refl _) j hj hj,uniP_covers ks _ (Nat.le_refl _) j hj hj⟩
 obtain⟨hv,-⟩:=valid_mem h hz
 have hk:=(valid_elem h hz).1
 obtain⟨k',e',n',d',ks'⟩:=z
 simp only [validN,Bool.and_eq_true] at hv
 have h2:=hv.2
 simp only [Nd.k] at hk
 subst hk
 unfold headB at h2
 rw [if_neg (by omega),if_pos rfl,decide_eq_true_iff] at h2
 exact h2.2.2.1
theorem head_str {e n:Int}{d:List Int}{ks:List Nd}(h:validN (.mk 1 e n d ks)=true):e=0∧n=0∧d.length % 8=0∧d.length≤524280∧ks.length≤65535:=by
 simp only [validN,Bool.and_eq_true] at h
 have h2:=h.2
 unfold headB at h2
 rw [if_neg (by omega),if_pos rfl,decide_eq_true_iff] at h2
 exact h2
theorem head_lst {e n:Int}{d:List Int}{ks:List Nd}(h:validN (.mk 2 e n d ks)=true):0≤n∧n≤536870911∧0≤e∧e≤7∧(6≤e→d.length=0∧(ks.length:Int)=n)∧(e<6→ks.length=0∧(d.length:Int)=bytesI e n∧trimL d e n=d):=by
 simp only [validN,Bool.and_eq_true] at h
 have h2:=h.2
 unfold headB at h2
 rw [if_neg (by omega),if_neg (by omega),if_pos rfl,decide_eq_true_iff] at h2
 exact h2
theorem head_nul {e n:Int}{d:List Int}{ks:List Nd}(h:validN (.mk 0 e n d ks)=true):Nd.mk 0 e n d ks=nd0:=by
 simp only [validN,Bool.and_eq_true] at h
 have h2:=h.2
 unfold headB at h2
 rw [if_pos rfl,decide_eq_true_iff] at h2
 obtain⟨rfl,rfl,h3,h4⟩:=h2
 rw [List.eq_nil_of_length_eq_zero h3,List.eq_nil_of_length_eq_zero h4]
 rfl
theorem body_length {x:Nd}(h:validN x=true):((bodyN x).length:Int)=canO x:=by
 obtain⟨k,e,n,d,ks⟩:=x
 have hk:=valid_k h
 simp only [Nd.k] at hk
 simp only [bodyN,canO,Nd.k,Nd.e,Nd.n,Nd.d,Nd.ks]
 rcases hk with rfl|rfl|rfl
 ·simp [bodyW,canOf]
 ·simp only [bodyW,if_neg (show ¬((1:Int)=0) by omega),if_pos]
  rw [List.length_append,wordsOf_length,ptrsW_length]
  simp [canOf]
 ·obtain⟨g1,g2,g3,g4,g5,g6⟩:=head_lst h
  simp only [bodyW,if_neg (show ¬((2:Int)=0) by omega),if_neg (show ¬((2:Int)=1) by omega)]
  by_cases h7:e=7
  ·subst h7
   rw [if_pos rfl,List.length_cons,elsW_length _ _ _ _ _ (comp_fit h)]
   simp only [canOf,if_neg (show ¬((2:Int)=0) by omega),if_neg (show ¬((2:Int)=1) by omega),if_pos]
   rw [←(g5 (by omega)).2]
   simp
   omega
  ·rw [if_neg h7]
   simp only [canOf,if_neg (show ¬((2:Int)=0) by omega),if_neg (show ¬((2:Int)=1) by omega),if_neg h7]
   by_cases h6:e=6
   ·subst h6
    rw [if_pos rfl,ptrsW_length,(g5 (by omega)).2]
    simp [wordsI,bitsI]
    omega
   ·rw [if_neg h6]
    obtain⟨g7,g8,-⟩:=g6 (by omega)
    have hb:=bitsI_mul e n g1
    have hw:wordsI e n=(bitsI e*n+63) / 64:=by unfold wordsI;rw [if_neg h7]
    have hB:bytesI e n=(bitsI e*n+7) / 8:=rfl
    rw [padW_length (by omega)]
    omega
theorem objK_length {l:List Nd}(h:∀y∈l,((objW y).length:Int)=canN y):((objK l).length:Int)=canK l:=by
 induction l with
 | nil=>simp [objK,canK]
 | cons y ys ih=>
  have h1:=h y (List.mem_cons_self ..)
  have h2:=ih (fun z hz=>h z (List.mem_cons_of_mem _ hz))
  simp only [objK,canK,List.length_append]
  omega
theorem objW_length:∀x:Nd,validN x=true→((objW x).length:Int)=canN x:=size_ind (by
 intro x ih h
 have h1:=body_length h
 have h2:=objK_length (l:=targN x) (fun y hy=>ih y (targ_lt hy) (valid_targ h y hy))
 rw [objW_eq,canN_eq,List.length_append]
 omega)
theorem writeF_length {x:Nd}(h:validN x=true):((writeF x).length:Int)=canN x+1:=by
 rw [writeF,List.length_cons,←objW_length x h]
 simp
theorem ptrW_wd (x:Nd)(o:Int):0≤ptrW x o∧ptrW x o<18446744073709551616:=by
 unfold ptrW
 split
 ·omega
 ·exact encW_bd _
theorem ptrsW_wds:∀(ts:List Nd) (pos nx:Int),Wds (ptrsW pos nx ts)
 | [],_,_=>fun z hz=>by cases hz
 | t::ts,pos,nx=>by
  intro z hz
  rcases List.mem_cons.1 hz with rfl|hz
  ·exact ptrW_wd _ _
  ·exact ptrsW_wds ts _ _ z hz
theorem padW_wds {b:List Int}(h:Bts b)(n:Nat):Wds (padW b n):=wordsOf_wds (by
 intro z hz
 rcases List.mem_append.1 hz with hz|hz
 ·exact h z hz
 ·rw [List.eq_of_mem_replicate hz];omega)
theorem elsW_wds (a b:Nat):∀(ys:List Nd) (pos nx:Int),(∀y∈ys,Bts y.d)→Wds (elsW a b pos nx ys)
 | [],_,_,_=>fun z hz=>by cases hz
 | y::ys,pos,nx,h=>by
  intro z hz
  simp only [elsW] at hz
  rcases List.mem_append.1 hz with hz|hz
  ·exact padW_wds (h y (List.mem_cons_self ..)) a z hz
  ·rcases List.mem_append.1 hz with hz|hz
   ·exact ptrsW_wds _ _ _ z hz
   ·exact elsW_wds a b ys _ _ (fun z hz=>h z (List.mem_cons_of_mem _ hz)) z hz
mutual
def bytN:Nd→Prop
 | .mk _ _ _ d ks=>Bts d∧bytK ks
def bytK:List Nd→Prop
 | []=>True
 | x::xs=>bytN x∧bytK xs
end
theorem bytK_mem {l:List Nd}(h:bytK l):∀y∈l,bytN y:=by
 induction l with
 | nil=>intro y hy;cases hy
 | cons x xs ih=>
  simp only [bytK] at h
  intro y hy
  rcases List.mem_cons.1 hy with rfl|hy
  ·exact h.1
  ·exact ih h.2 y hy
theorem bytK_of {l:List Nd}(h:∀y∈l,bytN y):bytK l:=by
 induction l with
 | nil=>simp [bytK]
 | cons x xs ih=>simp only [bytK];exact⟨h x (List.mem_cons_self ..),ih (fun y hy=>h y (List.mem_cons_of_mem _ hy))⟩
theorem bytN_d {x:Nd}(h:bytN x):Bts x.d:=by
 obtain⟨k,e,n,d,ks⟩:=x
 exact(by simpa only [bytN] using h:Bts d∧bytK ks).1
theorem bytN_ks {x:Nd}(h:bytN x):∀y∈x.ks,bytN y:=by
 obtain⟨k,e,n,d,ks⟩:=x
 exact bytK_mem (by simpa only [bytN] using h:Bts d∧bytK ks).2
theorem bytN_targ {x:Nd}(h:bytN x):∀y∈targN x,bytN y:=by
 intro y hy
 have hk:=bytN_ks h
 obtain⟨k,e,n,d,ks⟩:=x
 rw [targN_mk] at hy
 split at hy
 ·obtain⟨z,hz,hyz⟩:=List.mem_flatMap.1 hy
  exact bytN_ks (hk z hz) y hyz
 ·exact hk y hy
theorem NdR.byt {w:World}{A:Option Addr}{c:Nat}{B:Option Addr}{c2:Nat}{x:Nd}(h:NdR w A c B c2 x):bytN x:=by
 induction h with
 | mk k e n d ks A c B c2 FA Fc FB Fc2 hk he hn hd hby hdl hc hA hkl hc2 hB hcell hsub ih=>
  simp only [bytN]
  refine⟨hby,bytK_of fun y hy=>?_⟩
  obtain⟨j,hj,rfl⟩:=List.getElem_of_mem hy
  exact ih j _ (List.getElem?_eq_getElem hj)
theorem body_wds {x:Nd}(h:bytN x):Wds (bodyN x):=by
 have hd:=bytN_d h
 have hk:=bytN_ks h
 obtain⟨k,e,n,d,ks⟩:=x
 simp only [bodyN,Nd.k,Nd.e,Nd.n,Nd.d,Nd.ks] at hd hk ⊢
 unfold bodyW
 split
 ·intro z hz;cases hz
 ·split
  ·intro z hz
   rcases List.mem_append.1 hz with hz|hz
   ·exact wordsOf_wds hd z hz
   ·exact ptrsW_wds _ _ _ z hz
  ·split
   ·intro z hz
    rcases List.mem_cons.1 hz with rfl|hz
    ·exact encW_bd _
    ·exact elsW_wds _ _ _ _ _ (fun y hy=>bytN_d (hk y hy)) z hz
   ·split
    ·exact ptrsW_wds _ _ _
    ·exact padW_wds hd _
theorem objW_wds:∀x:Nd,bytN x→Wds (objW x):=size_ind (by
 intro x ih h z hz
 rw [objW_eq] at hz
 rcases List.mem_append.1 hz with hz|hz
 ·exact body_wds h z hz
 ·have:∀l:List Nd,(∀y∈l,Wds (objW y))→Wds (objK l):=by
   intro l hl
   induction l with
   | nil=>intro z hz;cases hz
   | cons y ys ih2=>
    intro z hz
    simp only [objK] at hz
    rcases List.mem_append.1 hz with hz|hz
    ·exact hl y (List.mem_cons_self ..) z hz
    ·exact ih2 (fun z hz=>hl z (List.mem_cons_of_mem _ hz)) z hz
  exact this _ (fun y hy=>ih y (targ_lt hy) (bytN_targ h y hy)) z hz)
theorem writeF_wds {x:Nd}(h:bytN x):Wds (writeF x):=by
 intro z hz
 rcases List.mem_cons.1 hz with rfl|hz
 ·exact ptrW_wd _ _
 ·exact objW_wds x h z hz
def elsP (a b:Nat):List Nd→List Int→List Int
 | [],_=>[]
 | y::ys,pw=>padW y.d a++(pw.take y.ks.length++(List.replicate (b-y.ks.length) 0++elsP a b ys (pw.drop y.ks.length)))
def posE (a b:Nat)(s:Nat):List Nd→List Nat
 | []=>[]
 | y::ys=>(List.range y.ks.length).map (fun i=>s+a+i)++posE a b (s+a+b) ys
def bodyPW (k e n:Int)(d:List Int)(ks:List Nd)(pw:List Int):List Int:=
 if k=0 then []
 else if k=1 then wordsOf d++pw
 else if e=7 then tagW n (uniD ks ks.length) (uniP ks ks.length)::elsP (uniD ks ks.length) (uniP ks ks.length) ks pw
 else if e=6 then pw
 else padW d (wordsI e n).toNat
def bodyP (x:Nd)(pw:List Int):List Int:=bodyPW x.k x.e x.n x.d x.ks pw
theorem bodyW_2 {e n:Int}{d:List Int}{ks:List Nd}(h7:e≠7):bodyW 2 e n d ks=if e=6 then ptrsW 0 (canOf 2 e n d ks) ks else padW d (wordsI e n).toNat:=by
 unfold bodyW
 rw [if_neg (show ¬((2:Int)=0) by decide),if_neg (show ¬((2:Int)=1) by decide),if_neg h7]
theorem bodyPW_2 {e n:Int}{d:List Int}{ks:List Nd}{pw:List Int}(h7:e≠7):bodyPW 2 e n d ks pw=if e=6 then pw else padW d (wordsI e n).toNat:=by
 unfold bodyPW
 rw [if_neg (show ¬((2:Int)=0) by decide),if_neg (show ¬((2:Int)=1) by decide),if_neg h7]
def posL (x:Nd):List Nat:=
 if x.k=1 then (List.range x.ks.length).map (fun i=>x.d.length / 8+i)
 else if x.e=7 then posE (uniD x.ks x.ks.length) (uniP x.ks x.ks.length) 1 x.ks
 else (List.range x.ks.length).map (fun i=>0+i)
def pwF (nx:Int):List Nd→List Nat→List Int
 | t::ts,p::ps=>ptrW t (nx-p-1)::pwF (nx+canN t) ts ps
 | _,_=>[]
def pwL (x:Nd):List Int:=pwF (canO x) (targN x) (posL x)
theorem pwF_length:∀(ts:List Nd) (ps:List Nat) (nx:Int),ts.length=ps.length→(pwF nx ts ps).length=ts.length
 | [],ps,_,_=>by simp [pwF]
 | t::ts,[],_,h=>by simp at h
 | t::ts,p::ps,nx,h=>by simp only [pwF,List.length_cons,pwF_length ts ps _ (by simpa using h)]
theorem pwF_append:∀(ts us:List Nd) (ps qs:List Nat) (nx:Int),ts.length=ps.length→pwF nx (ts++us) (ps++qs)=pwF nx ts ps++pwF (nx+canK ts) us qs
 | [],us,[],qs,nx,_=>by simp [pwF,canK]
 | [],us,p::ps,qs,nx,h=>by simp at h
 | t::ts,us,[],qs,nx,h=>by simp at h
 | t::ts,us,p::ps,qs,nx,h=>by
  simp only [List.cons_append,pwF,canK,pwF_append ts us ps qs _ (by simpa using h)]
  rw [Int.add_assoc]
theorem ptrsW_pwF:∀(ts:List Nd) (pos:Nat) (nx:Int),ptrsW pos nx ts=pwF nx ts ((List.range ts.length).map (fun i=>pos+i))
 | [],_,_=>by simp [ptrsW,pwF]
 | t::ts,pos,nx=>by
  have ih:=ptrsW_pwF ts (pos+1) (nx+canN t)
  have e:((pos+1:Nat):Int)=(pos:Int)+1:=by omega
  rw [e] at ih
  simp only [ptrsW,ih,List.length_cons,List.range_succ_eq_map,List.map_cons,List.map_map,pwF,Nat.add_zero]
  congr 3
  funext i
  simp only [Function.comp]
  omega
theorem ptrsW_append:∀(ts us:List Nd) (pos nx:Int),ptrsW pos nx (ts++us)=ptrsW pos nx ts++ptrsW (pos+ts.length) (nx+canK ts) us
 | [],us,pos,nx=>by simp [ptrsW,canK]
 | t::ts,us,pos,nx=>by
  simp only [List.cons_append,ptrsW,canK,List.length_cons,ptrsW_append ts us]
  have e1:pos+1+(ts.length:Int)=pos+((ts.length+1:Nat):Int):=by omega
  rw [e1,Int.add_assoc]
theorem ptrsW_null:∀(q:Nat) (pos nx:Int),ptrsW pos nx (List.replicate q nd0)=List.replicate q 0
 | 0,_,_=>rfl
 | q+1,pos,nx=>by
  rw [List.replicate_succ,List.replicate_succ]
  simp only [ptrsW,ptrsW_null q]
  congr 1
theorem posE_length (a b:Nat):∀(ys:List Nd) (s:Nat),(posE a b s ys).length=(kk ys).length
 | [],_=>by simp [posE,kk]
 | y::ys,s=>by
  have h:kk (y::ys)=y.ks++kk ys:=by simp [kk]
  rw [h,List.length_append]
  simp only [posE,List.length_append,List.length_map,List.length_range,posE_length a b ys]
theorem elsW_elsP (a b:Nat):∀(ys:List Nd) (s:Nat) (nx:Int),elsW a b s nx ys=elsP a b ys (pwF nx (kk ys) (posE a b s ys))
 | [],_,_=>rfl
 | y::ys,s,nx=>by
  have h:kk (y::ys)=y.ks++kk ys:=by simp [kk]
  have hl:y.ks.length=((List.range y.ks.length).map (fun i=>s+a+i)).length:=by simp
  have hf:=pwF_length y.ks ((List.range y.ks.length).map (fun i=>s+a+i)) nx hl
  have e1:((s+a:Nat):Int)=(s:Int)+a:=by omega
  have e2:((s+a+b:Nat):Int)=(s:Int)+a+b:=by omega
  have ih:=elsW_elsP a b ys (s+a+b) (nx+canK y.ks)
  rw [e2] at ih
  have hp:=ptrsW_pwF y.ks (s+a) nx
  rw [e1] at hp
  simp only [elsW,elsP,h,posE,pwF_append _ _ _ _ _ hl]
  rw [List.take_left' hf,List.drop_left' hf,ptrsW_append,ptrsW_null,hp,ih]
  simp only [List.append_assoc]
theorem body_bodyP {x:Nd}(hv:validN x=true):bodyN x=bodyP x (pwL x):=by
 obtain⟨k,e,n,d,ks⟩:=x
 have hk:=valid_k hv
 simp only [Nd.k] at hk
 rcases hk with rfl|rfl|rfl
 ·rfl
 ·have hT:targN (.mk 1 e n d ks)=ks:=by rw [targN_mk,if_neg (by omega)]
  have hP:posL (.mk 1 e n d ks)=(List.range ks.length).map (fun i=>d.length / 8+i):=rfl
  unfold pwL
  rw [hT,hP]
  show wordsOf d++ptrsW _ _ ks=wordsOf d++_
  rw [ptrsW_pwF]
  rfl
 ·obtain⟨-,-,-,g4,g5,g6⟩:=head_lst hv
  by_cases h7:e=7
  ·subst h7
   have hT:targN (.mk 2 7 n d ks)=kk ks:=by rw [targN_mk,if_pos ⟨rfl,rfl⟩]
   have hP:posL (.mk 2 7 n d ks)=posE (uniD ks ks.length) (uniP ks ks.length) 1 ks:=rfl
   unfold pwL
   rw [hT,hP]
   show tagW n _ _::elsW _ _ 1 _ ks=tagW n _ _::elsP _ _ ks _
   have:=elsW_elsP (uniD ks ks.length) (uniP ks ks.length) ks 1 (canO (.mk 2 7 n d ks))
   exact congrArg (List.cons (tagW n (uniD ks ks.length) (uniP ks ks.length))) this
  ·have hT:targN (.mk 2 e n d ks)=ks:=by rw [targN_mk,if_neg (by omega)]
   have hP:posL (.mk 2 e n d ks)=(List.range ks.length).map (fun i=>0+i):=by
    show (if (2:Int)=1 then _ else if e=7 then _ else _)=_
    rw [if_neg (by decide),if_neg h7]
    rfl
   unfold pwL
   rw [hT,hP]
   have hb1:bodyN (.mk 2 e n d ks)=if e=6 then ptrsW 0 (canO (.mk 2 e n d ks)) ks else padW d (wordsI e n).toNat:=bodyW_2 h7
   have hb2:∀pw,bodyP (.mk 2 e n d ks) pw=if e=6 then pw else padW d (wordsI e n).toNat:=fun pw=>bodyPW_2 h7
   rw [hb1,hb2]
   by_cases h6:e=6
   ·rw [if_pos h6,if_pos h6]
    have:=ptrsW_pwF ks 0 (canO (.mk 2 e n d ks))
    rw [←this]
    rfl
   ·rw [if_neg h6,if_neg h6]
theorem nat_getD_map (f:Nat→Nat)(n i:Nat)(h:i<n):((List.range n).map f).getD i 0=f i:=by
 simp [List.getD_eq_getElem?_getD,h]
theorem getD_append_l (p q:List Nat)(i:Nat)(h:i<p.length):(p++q).getD i 0=p.getD i 0:=by
 simp [List.getD_eq_getElem?_getD,List.getElem?_append_left h]
theorem getD_append_r (p q:List Nat)(i:Nat)(h:p.length≤i):(p++q).getD i 0=q.getD (i-p.length) 0:=by
 simp [List.getD_eq_getElem?_getD,List.getElem?_append_right h]
theorem set_left (p q:List Int)(i:Nat)(v:Int)(h:i<p.length):(p++q).set i v=p.set i v++q:=List.set_append_left i v h
theorem set_right (p q:List Int)(i:Nat)(v:Int)(h:p.length≤i):(p++q).set i v=p++q.set (i-p.length) v:=List.set_append_right i v h
theorem elsP_one (a b:Nat):∀(ys:List Nd) (pw:List Int) (s i:Nat) (v:Int),(∀y∈ys,y.d.length≤8*a∧y.ks.length≤b)→pw.length=(kk ys).length→i<(kk ys).length →
  s≤(posE a b s ys).getD i 0∧(posE a b s ys).getD i 0-s<(elsP a b ys pw).length∧zat (elsP a b ys pw) ((posE a b s ys).getD i 0-s)=zat pw i∧(elsP a b ys pw).set ((posE a b s ys).getD i 0-s) v=elsP a b ys (pw.set i v)
 | [],_,_,_,_,_,_,hi=>by simp [kk] at hi
 | y::ys,pw,s,i,v,hf,hl,hi=>by
  obtain⟨h1,h2⟩:=hf y (List.mem_cons_self ..)
  have h:kk (y::ys)=y.ks++kk ys:=by simp [kk]
  rw [h,List.length_append] at hl hi
  have hpl:=padW_length h1
  have htl:(pw.take y.ks.length).length=y.ks.length:=by rw [List.length_take];omega
  have hrl:((List.range y.ks.length).map (fun i=>s+a+i)).length=y.ks.length:=by simp
  simp only [elsP,posE]
  by_cases hlt:i<y.ks.length
  ·rw [getD_append_l _ _ _ (by omega),nat_getD_map _ _ _ hlt]
   have e:s+a+i-s=a+i:=by omega
   rw [e]
   refine⟨by omega,?_,?_,?_⟩
   ·simp only [List.length_append,hpl,htl];omega
   ·rw [zat_append_right _ _ _ (by omega),hpl,Nat.add_sub_cancel_left,zat_append_left _ _ _ (by omega),zat_take _ _ _ hlt]
   ·rw [set_right _ _ _ _ (by omega),hpl,Nat.add_sub_cancel_left,set_left _ _ _ _ (by omega),List.take_set,List.drop_set_of_lt hlt]
  ·rw [getD_append_r _ _ _ (by omega),hrl]
   obtain⟨g1,g2,g3,g4⟩:=elsP_one a b ys (pw.drop y.ks.length) (s+a+b) (i-y.ks.length) v (fun z hz=>hf z (List.mem_cons_of_mem _ hz)) (by rw [List.length_drop];omega) (by omega)
   generalize (posE a b (s+a+b) ys).getD (i-y.ks.length) 0=q at *
   obtain⟨t,rfl⟩:∃t,q=s+a+b+t:=⟨q-(s+a+b),by omega⟩
   rw [Nat.add_sub_cancel_left] at g2 g3 g4
   have e:s+a+b+t-s=a+b+t:=by omega
   rw [e]
   have e2:a+b+t-a=b+t:=by omega
   have e3:b+t-y.ks.length-(b-y.ks.length)=t:=by omega
   refine⟨by omega,?_,?_,?_⟩
   ·simp only [List.length_append,hpl,htl,List.length_replicate];omega
   ·rw [zat_append_right _ _ _ (by omega),hpl,e2,zat_append_right _ _ _ (by omega),htl,zat_append_right _ _ _ (by simp;omega),List.length_replicate,e3,g3,zat_drop]
    congr 1
    omega
   ·rw [set_right _ _ _ _ (by omega),hpl,e2,set_right _ _ _ _ (by omega),htl,set_right _ _ _ _ (by simp;omega),List.length_replicate,e3,g4]
    rw [List.take_set_of_le (by omega),List.drop_set,if_neg hlt]
theorem body_one {x:Nd}(hv:validN x=true)(pw:List Int)(i:Nat)(v:Int)(hl:pw.length=(targN x).length)(hi:i<(targN x).length):
  (posL x).getD i 0<(bodyP x pw).length∧zat (bodyP x pw) ((posL x).getD i 0)=zat pw i∧(bodyP x pw).set ((posL x).getD i 0) v=bodyP x (pw.set i v):=by
 obtain⟨k,e,n,d,ks⟩:=x
 have hk:=valid_k hv
 simp only [Nd.k] at hk
 rcases hk with rfl|rfl|rfl
 ·rw [head_nul hv] at hi
  simp [targN_mk,nd0] at hi
 ·have hT:targN (.mk 1 e n d ks)=ks:=by rw [targN_mk,if_neg (by omega)]
  rw [hT] at hl hi
  have hP:posL (.mk 1 e n d ks)=(List.range ks.length).map (fun i=>d.length / 8+i):=rfl
  have hB:∀pw,bodyP (.mk 1 e n d ks) pw=wordsOf d++pw:=fun _=>rfl
  have hw:=wordsOf_length d
  rw [hP,nat_getD_map _ _ _ hi,hB,hB]
  refine⟨by rw [List.length_append];omega,?_,?_⟩
  ·rw [zat_append_right _ _ _ (by omega),hw,Nat.add_sub_cancel_left]
  ·rw [set_right _ _ _ _ (by omega),hw,Nat.add_sub_cancel_left]
 ·obtain⟨-,-,-,g4,g5,g6⟩:=head_lst hv
  by_cases h7:e=7
  ·subst h7
   have hT:targN (.mk 2 7 n d ks)=kk ks:=by rw [targN_mk,if_pos ⟨rfl,rfl⟩]
   have hP:posL (.mk 2 7 n d ks)=posE (uniD ks ks.length) (uniP ks ks.length) 1 ks:=rfl
   have hB:∀pw,bodyP (.mk 2 7 n d ks) pw=tagW n (uniD ks ks.length) (uniP ks ks.length)::elsP (uniD ks ks.length) (uniP ks ks.length) ks pw:=fun _=>rfl
   rw [hT] at hl hi
   obtain⟨q1,q2,q3,q4⟩:=elsP_one _ _ ks pw 1 i v (comp_fit hv) hl hi
   rw [hP,hB,hB]
   generalize (posE (uniD ks ks.length) (uniP ks ks.length) 1 ks).getD i 0=q at *
   obtain⟨t,rfl⟩:∃t,q=t+1:=⟨q-1,by omega⟩
   rw [Nat.add_sub_cancel] at q2 q3 q4
   refine⟨by rw [List.length_cons];omega,?_,by rw [List.set_cons_succ,q4]⟩
   rw [←q3]
   simp [zat]
  ·have hT:targN (.mk 2 e n d ks)=ks:=by rw [targN_mk,if_neg (by omega)]
   rw [hT] at hl hi
   have h6:e=6:=by
    rcases(by omega:e<6∨e=6) with h|h
    ·have:=(g6 h).1;omega
    ·exact h
   subst h6
   have hP:posL (.mk 2 6 n d ks)=(List.range ks.length).map (fun i=>0+i):=rfl
   have hB:∀pw,bodyP (.mk 2 6 n d ks) pw=pw:=fun _=>rfl
   rw [hP,nat_getD_map _ _ _ hi,hB,hB,Nat.zero_add]
   exact⟨by omega,rfl,rfl⟩
theorem posL_length {x:Nd}(hv:validN x=true):(posL x).length=(targN x).length:=by
 obtain⟨k,e,n,d,ks⟩:=x
 have hk:=valid_k hv
 simp only [Nd.k] at hk
 rcases hk with rfl|rfl|rfl
 ·rw [head_nul hv];rfl
 ·rw [targN_mk,if_neg (by omega)]
  show ((List.range ks.length).map _).length=_
  simp
 ·by_cases h7:e=7
  ·subst h7
   rw [targN_mk,if_pos ⟨rfl,rfl⟩]
   exact posE_length _ _ ks 1
  ·rw [targN_mk,if_neg (by omega)]
   have hP:posL (.mk 2 e n d ks)=(List.range ks.length).map (fun i=>0+i):=by
    show (if (2:Int)=1 then _ else if e=7 then _ else _)=_
    rw [if_neg (by decide),if_neg h7]
    rfl
   rw [hP]
   simp
theorem pwL_length {x:Nd}(hv:validN x=true):(pwL x).length=(targN x).length:=pwF_length _ _ _ (posL_length hv).symm
theorem pwF_zat:∀(ts:List Nd) (ps:List Nat) (nx:Int) (i:Nat) (hi:i<ts.length),ts.length=ps.length→zat (pwF nx ts ps) i=ptrW ts[i] (nx+canK (ts.take i)-(ps.getD i 0:Nat)-1)
 | [],_,_,_,hi,_=>by simp at hi
 | t::ts,[],_,_,_,h=>by simp at h
 | t::ts,p::ps,nx,0,_,_=>by simp [pwF,zat,canK]
 | t::ts,p::ps,nx,i+1,hi,h=>by
  have ih:=pwF_zat ts ps (nx+canN t) i (by simpa using hi) (by simpa using h)
  have e:zat (pwF nx (t::ts) (p::ps)) (i+1)=zat (pwF (nx+canN t) ts ps) i:=by simp [pwF,zat]
  rw [e,ih]
  simp only [List.getElem_cons_succ,List.take_succ_cons,canK,List.getD_cons_succ]
  congr 1
  omega
def fillW (x:Nd)(i:Nat):List Int:=bodyP x ((pwL x).take i++List.replicate ((targN x).length-i) 0)
theorem fillW_all {x:Nd}(hv:validN x=true):fillW x (targN x).length=bodyN x:=by
 unfold fillW
 rw [Nat.sub_self,List.replicate_zero,List.append_nil,←pwL_length hv,List.take_length,body_bodyP hv]
theorem fillW_step {x:Nd}(hv:validN x=true)(i:Nat)(hi:i<(targN x).length):
  (posL x).getD i 0<(fillW x i).length∧zat (fillW x i) ((posL x).getD i 0)=0∧(fillW x i).set ((posL x).getD i 0) (ptrW (targN x)[i] (canO x+canK ((targN x).take i)-((posL x).getD i 0:Nat)-1))=fillW x (i+1):=by
 have hl:=pwL_length hv
 have htl:((pwL x).take i).length=i:=by rw [List.length_take];omega
 obtain⟨h1,h2,h3⟩:=body_one hv ((pwL x).take i++List.replicate ((targN x).length-i) 0) i (ptrW (targN x)[i] (canO x+canK ((targN x).take i)-((posL x).getD i 0:Nat)-1)) (by rw [List.length_append,htl,List.length_replicate];omega) hi
 refine⟨h1,?_,?_⟩
 ·show zat (bodyP x _) _=0
  rw [h2,zat_append_right _ _ _ (by omega),zat_replicate]
 ·show (bodyP x _).set _ _=bodyP x _
  rw [h3]
  congr 1
  rw [set_right _ _ _ _ (by omega),htl,Nat.sub_self]
  obtain⟨m,hm⟩:∃m,(targN x).length-i=m+1:=⟨(targN x).length-i-1,by omega⟩
  have hz:=pwF_zat (targN x) (posL x) (canO x) i hi (posL_length hv).symm
  rw [hm,show (targN x).length-(i+1)=m by omega,List.replicate_succ,List.set_cons_zero,←hz]
  have e:(pwL x).take (i+1)=(pwL x).take i++[zat (pwL x) i]:=by
   rw [List.take_succ_eq_append_getElem (by omega)]
   simp [zat,List.getD_eq_getElem?_getD,hl,hi]
  rw [e,List.append_assoc]
  rfl
set_option maxRecDepth 100000 in
theorem RefObject13 (x:Nd)(A:Option Addr)(c:Nat)(B:Option Addr)(c2:Nat)(w:World)(hx:NdR w A c B c2 x)(hs:sizeN x≤1099511627776)(hv:validN x=true):
  Calls Tryd.prog 72 #[.agg #[.int .i64 x.k,.int .i64 x.e,.int .i64 x.n,.slice A x.d.length c,.slice B x.ks.length c2]] w fun r w'=>r=.returned (.int .i64 (canO x))∧Below w.heap.size w w':=by
 obtain⟨k,e,n,d,ks⟩:=x
 have HR:Hid (canO (.mk k e n d ks)=canOf k e n d ks):=Lib.hid rfl
 have hsz:sizeN (.mk k e n d ks)=1+d.length+sizeK ks:=by simp [sizeN]
 have hkl:=sizeK_length ks
 have HX:=Lib.hid hx
 have HS:=Lib.hid hs
 have hh:=valid_head hv
 simp only [Nd.k,Nd.e,Nd.n,Nd.d,Nd.ks]
 by_cases h0:k=0
 ·have HC:Hid (canOf k e n d ks=0):=Lib.hid (by unfold canOf;rw [if_pos h0])
  have t0:(k==0)=true:=by simpa using h0
  clear h0 hh hx
  go_enter Tryd.func72,Tryd.ntmps72
  go_wp2
  go_ret
  exact⟨by rw [HR.out,HC.out];rfl,(Below.refl _ _).alloc (Nat.le_refl _) _⟩
 have t0:(k==0)=false:=by simpa using h0
 by_cases h1:k=1
 ·have HC:Hid (canOf k e n d ks=((d.length / 8+ks.length:Nat):Int)):=Lib.hid (by unfold canOf;rw [if_neg h0,if_pos h1])
  have t1:(k==1)=true:=by simpa using h1
  have hq:((d.length:Int)).tdiv 8=((d.length / 8:Nat):Int):=by rw [Int.tdiv_eq_ediv_of_nonneg (by omega)];omega
  clear h0 h1 hh hx
  go_enter Tryd.func72,Tryd.ntmps72
  go_wp2
  go_ret
  exact⟨by rw [HR.out,HC.out];simp;try omega,(Below.refl _ _).alloc (Nat.le_refl _) _⟩
 have t1:(k==1)=false:=by simpa using h1
 have hk2:k=2:=by rcases hh with h|h|h<;>omega
 obtain⟨-,hn0,hn1,he0,he7,-,-⟩:k=2∧0≤n∧n≤536870911∧0≤e∧e≤7∧True∧True:=by
  rcases hh with h|h|h
  ·omega
  ·omega
  ·exact⟨h.1,h.2.1,h.2.2.1,h.2.2.2.1,h.2.2.2.2.1,trivial,trivial⟩
 by_cases h7:e=7
 ·obtain⟨u,hu⟩:∃u,uniD ks ks.length=u:=⟨_,rfl⟩
  obtain⟨v,hv2⟩:∃v,uniP ks ks.length=v:=⟨_,rfl⟩
  have HC:Hid (canOf k e n d ks=1+n*((u:Int)+v)):=Lib.hid (by unfold canOf;rw [if_neg h0,if_neg h1,if_pos h7,hu,hv2];simp)
  have hub:=(by subst hk2 h7;exact uni_bd hv:uniD ks ks.length≤65535∧uniP ks ks.length≤65535)
  rw [hu,hv2] at hub
  have m0:0≤n*((u:Int)+v):=Int.mul_nonneg hn0 (by omega)
  have m1:n*((u:Int)+v)≤536870911*131070:=Int.mul_le_mul (by omega) (by omega) (by omega) (by omega)
  have HU:=Lib.hid (fun w2 (h2:NdR w2 A c B c2 (.mk k e n d ks))=>RefUniform11_any (.mk k e n d ks) A c B c2 w2 h2 HS.out)
  simp only [Nd.k,Nd.e,Nd.n,Nd.d,Nd.ks] at HU
  rw [hu,hv2] at HU
  have t7:(e==7)=true:=by simpa using h7
  clear h0 h1 h7 hk2 hh hx hu hv2 hv hs
  go_enter Tryd.func72,Tryd.ntmps72
  go_wp2_with fail
  refine(HU.out _ (HX.out.on ((Below.refl _ _).alloc (Nat.le_refl _) _) (Nat.le_refl _))).mono ?_
  rintro r w1 ⟨rfl,hb1⟩
  have B1:=(Blk.fresh w #[.int .i64 k,.int .i64 e,.int .i64 n,.slice A d.length c,.slice B ks.length c2] 37).below hb1
  have HB:Hid (Below w.heap.size w w1):=Lib.hid (((Below.refl _ _).alloc (Nat.le_refl _) _).trans (hb1.mono (by simp)))
  clear hb1 HU
  obtain⟨x1,y1,z1⟩:=B1
  go_wp2
  go_ret
  exact⟨by rw [HR.out,HC.out];rfl,HB.out⟩
 ·have t7:(e==7)=false:=by simpa using h7
  have HC:Hid (canOf k e n d ks=wordsI e n):=Lib.hid (by unfold canOf;rw [if_neg h0,if_neg h1,if_neg h7])
  clear h0 h1 h7 hk2 hh hx hv
  go_enter Tryd.func72,Tryd.ntmps72
  go_wp2_with fail
  refine(RefWords6_any e n _ hn0 hn1).mono ?_
  rintro r w1 ⟨rfl,rfl⟩
  go_wp2
  go_ret
  exact⟨by rw [HR.out,HC.out];rfl,(Below.refl _ _).alloc (Nat.le_refl _) _⟩
noncomputable def rightN (x:Nd):Bool:=fewN x&&(validN x&&trimmedN x)
set_option maxRecDepth 100000 in
theorem RefRight13 (x:Nd)(A:Option Addr)(c:Nat)(B:Option Addr)(c2:Nat)(w:World)(hx:NdR w A c B c2 x)(hs:sizeN x≤1099511627776):
  Calls Tryd.prog 14 #[.agg #[.int .i64 x.k,.int .i64 x.e,.int .i64 x.n,.slice A x.d.length c,.slice B x.ks.length c2]] w fun r w'=>r=.returned (.bool (rightN x))∧Below w.heap.size w w':=by
 have HX:=Lib.hid hx
 have HF:=Lib.hid (fun w2 (h2:NdR w2 A c B c2 x)=>RefFew_node x A c B c2 w2 h2 hs)
 have HV:=Lib.hid (fun w2 (h2:NdR w2 A c B c2 x)=>RefValid_node x A c B c2 w2 h2 hs)
 have HM:=Lib.hid (fun w2 (h2:NdR w2 A c B c2 x)=>RefTrimmed11_node x A c B c2 w2 h2 hs)
 have HR:Hid (rightN x=(fewN x&&(validN x&&trimmedN x))):=Lib.hid rfl
 generalize rightN x=v at *
 generalize fewN x=f at *
 generalize validN x=g at *
 generalize trimmedN x=t at *
 clear hx
 go_enter Tryd.func14,Tryd.ntmps14
 go_wp2_with fail
 refine(HF.out _ (HX.out.on ((Below.refl _ _).alloc (Nat.le_refl _) _) (Nat.le_refl _))).mono ?_
 rintro r w1 ⟨rfl,hb⟩
 have Bw1:=(Blk.fresh w #[.int .i64 x.k,.int .i64 x.e,.int .i64 x.n,.slice A x.d.length c,.slice B x.ks.length c2] 37).below hb
 have HBw1:Hid (Below w.heap.size w w1):=Lib.hid (((Below.refl _ _).alloc (Nat.le_refl _) _).trans (hb.mono (by simp)))
 clear hb
 have Hw1:=Lib.hid Bw1
 obtain⟨xw1,yw1,zw1⟩:=Bw1
 cases f with
 | false=>
  go_wp2
  go_ret
  exact⟨by rw [HR.out];rfl,HBw1.out⟩
 | true=>
 go_wp2_with fail
 clear xw1 yw1 zw1
 refine(HV.out _ (HX.out.on HBw1.out (Nat.le_refl _))).mono ?_
 rintro r w2 ⟨rfl,hb⟩
 have Bw2:=Hw1.out.below hb
 have HBw2:Hid (Below w.heap.size w w2):=Lib.hid (bel_on HBw1.out hb)
 clear hb
 have Hw2:=Lib.hid Bw2
 obtain⟨xw2,yw2,zw2⟩:=Bw2
 cases g with
 | false=>
  go_wp2
  go_ret
  exact⟨by rw [HR.out];rfl,HBw2.out⟩
 | true=>
 go_wp2_with fail
 clear xw2 yw2 zw2
 refine(HM.out _ (HX.out.on HBw2.out (Nat.le_refl _))).mono ?_
 rintro r w3 ⟨rfl,hb⟩
 have HB3:=Lib.hid (bel_on HBw2.out hb)
 clear hb
 cases t <;>
 (go_wp2
  go_ret
  exact⟨by rw [HR.out];rfl,HB3.out⟩)
theorem rep_snoc (b:List Int)(j:Nat):(b++List.replicate j 0)++[0]=b++List.replicate (j+1) 0:=by
 rw [List.append_assoc,List.replicate_succ']
set_option maxRecDepth 100000 in
theorem RefPadded14 (A:Option Addr)(c:Nat)(b:List Int)(n:Nat)(w:World)(hr:Ri w .u8 A b)(hb:Bts b)(hnil:A=none→c=0)(hbn:b.length≤8*n)(hm:n≤1099511627776):
  Calls Tryd.prog 71 #[.slice A b.length c,.int .i64 n] w fun e w'=>∃v,e=.returned v∧Got w' w.heap.size 32 .u64 v (padW b n)∧Below w.heap.size w w':=by
 obtain⟨i0,hi,hz0,hz1,hz2⟩:=info_parts int8_info
 have HR1:=Lib.hid (hr.alloc (.cells #[] 5))
 have HBT:=Lib.hid hb
 have HPW:Hid (padW b n=wordsOf (b++List.replicate (8*n-b.length) 0)):=Lib.hid rfl
 have HBZ:Hid (∀j,Bts (b++List.replicate j 0)):=Lib.hid (fun j z hz=>by
  rcases List.mem_append.1 hz with hz|hz
  ·exact hb z hz
  ·rw [List.eq_of_mem_replicate hz];omega)
 have HNL:=Lib.hid hnil
 clear hr hb hnil
 go_enter Tryd.func71,Tryd.ntmps71
 go_wp2_with (at_builtin;refine wpList_appN rfl (.tmp 8) (.tmp 9) 34 rfl Tryd.underlying34 hi hz0 hz1 hz2 rfl (Got.empty_made w 5 .u8 (base:=w.heap.size) (Nat.le_refl _)) rfl HR1.out HNL.out (by unfold maxLen;simp;omega) (by simp;omega) (by simp) ?_;intro v2 w2 hg2 hb2)
 have hB0:Below w.heap.size w w2:=((Below.refl _ _).alloc (Nat.le_refl _) _).trans hb2
 go_loopw [5] (fun v wr=>∃j:Nat,b.length+j≤8*n∧Got wr w.heap.size 5 .u8 v (b++List.replicate j 0)∧Below w.heap.size w wr) (fun v _=>match v with|.slice _ l _=>8*n-l|_=>0)
 case atStart=>exact⟨0,by omega,by simpa using hg2,hB0⟩
 case round=>
  clear hg2 hb2 hB0
  obtain⟨j,hj,hg,hbr⟩:=hrel
  obtain⟨A5,c5,rfl,hl5,hm5,hr5⟩:=hg.slice
  have HG:=Lib.hid hg
  have HR:=Lib.hid hbr
  have hsz:=hbr.size
  have hL:(b++List.replicate j 0).length=b.length+j:=by rw [List.length_append,List.length_replicate]
  have HL:=Lib.hid hL
  have HR5:=Lib.hid hr5
  have HBJ:=Lib.hid (HBZ.out j)
  have HS:=Lib.hid (rep_snoc b j)
  have HEND:Hid (b.length+j=8*n→b++List.replicate j 0=b++List.replicate (8*n-b.length) 0):=Lib.hid (fun h=>by congr 2;omega)
  clear hg hbr hr5 hl5 hm5
  by_cases hlt:b.length+j<8*n
  ·have t1:(((b++List.replicate j 0).length:Nat):Int)<8*(n:Int):=by rw [hL];omega
   generalize b++List.replicate j 0=cur at *
   go_wp2_with (at_builtin;refine wpList_app1 rfl (.tmp 16) (.tmp 17) 34 rfl Tryd.underlying34 hi hz0 hz1 hz2 rfl HG.out rfl (by rw [HL.out];unfold maxLen;omega) (by rw [HL.out];omega) hsz ?_;intro v1 w1 hg1 hb1)
   rw [HS.out] at hg1
   obtain⟨A6,c6,rfl,-⟩:=hg1.slice
   have hl6:(b++List.replicate (j+1) 0).length=b.length+(j+1):=by rw [List.length_append,List.length_replicate]
   go_roundw
   case rel=>exact⟨j+1,by omega,hg1,HR.out.trans hb1⟩
   case measure=>
    simp only [hl6]
    have:=HL.out
    simp
    omega
  ·have he:=HEND.out (by omega)
   have t1:¬((((b++List.replicate j 0).length:Nat):Int)<8*(n:Int)):=by rw [hL];omega
   rw [←he] at HPW
   have h8:(b++List.replicate j 0).length % 8=0:=by rw [hL];omega
   clear he HEND HS
   have hcl:(b++List.replicate j 0).length≤140737488355328:=by rw [hL];omega
   clear hL
   generalize b++List.replicate j 0=cur at *
   have HWD:=Lib.hid (RefWords_yes A5 c5 cur wr HR5.out HBJ.out hcl h8)
   go_wp2_with fail
   refine HWD.out.mono ?_
   rintro e w3 ⟨v3,rfl,hg3,hb3⟩
   have HG3:=Lib.hid (hg3.mono hsz)
   have HB3:=Lib.hid (bel_on HR.out hb3)
   clear hg3 hb3
   go_wp2
   go_ret
   exact⟨_,rfl,by rw [HPW.out];exact HG3.out,HB3.out⟩
end Go.Proofs.YtclpapddejgpnaaDoor
