/- The texts TrimN, TrimN2 (what is wanted of them), one after the other. -/
import Derived.Test.YtfaflahfjgnphaaGreatDoorMg11
namespace Go.Proofs.YtfaflahfjgnphaaGreatDoor
open Go.ChangeShapes Go.WideShapes Go.ChangeAt Go.RowKit
set_option linter.unusedVariables false
set_option linter.unusedSimpArgs false
set_option maxRecDepth 100000
def wordsF (d:List Int):Nat→Nat
 | 0=>0
 | i+1=>if zat d i=0 then wordsF d i else i / 8+1
def wordsT (d:List Int):Nat:=wordsF d d.length
def kAt (ks:List Nd)(i:Nat):Int:=(ks[i]?.map Nd.k).getD 0
def ptrsF (ks:List Nd):Nat→Nat
 | 0=>0
 | i+1=>if kAt ks i=0 then ptrsF ks i else i+1
def ptrsT (ks:List Nd):Nat:=ptrsF ks ks.length
theorem kAt_get {ks:List Nd}{i:Nat}(h:i<ks.length):kAt ks i=(ks[i]).k:=by simp [kAt,h]
theorem wordsF_le (d:List Int):∀i,8*wordsF d i<i+8
 | 0=>by simp [wordsF]
 | i+1=>by
  have:=wordsF_le d i
  unfold wordsF
  split<;>omega
theorem wordsT_le (d:List Int)(h:d.length % 8=0):8*wordsT d≤d.length:=by
 have:=wordsF_le d d.length
 unfold wordsT
 omega
theorem ptrsF_le (ks:List Nd):∀i,ptrsF ks i≤i
 | 0=>by simp [ptrsF]
 | i+1=>by
  have:=ptrsF_le ks i
  unfold ptrsF
  split<;>omega
theorem ptrsT_le (ks:List Nd):ptrsT ks≤ks.length:=ptrsF_le ks ks.length
mutual
def trimN:Nd→Nd
 | .mk k e n d ks=>.mk k e n (if k=1 then d.take (8*wordsT d) else d) (if k=1 then (trimK ks).take (ptrsT ks) else trimK ks)
def trimK:List Nd→List Nd
 | []=>[]
 | x::xs=>trimN x::trimK xs
end
theorem trimK_map (ks:List Nd):trimK ks=ks.map trimN:=by
 induction ks with
 | nil=>simp [trimK]
 | cons x xs ih=>simp [trimK,ih]
theorem trimK_length (ks:List Nd):(trimK ks).length=ks.length:=by rw [trimK_map,List.length_map]
theorem trimK_get (ks:List Nd)(j:Nat)(h:j<ks.length):(trimK ks)[j]'(by rw [trimK_length];exact h)=trimN ks[j]:=by simp [trimK_map]
theorem trimN_k (x:Nd):(trimN x).k=x.k:=by obtain⟨k,e,n,d,ks⟩:=x;simp [trimN,Nd.k]
theorem trimN_e (x:Nd):(trimN x).e=x.e:=by obtain⟨k,e,n,d,ks⟩:=x;simp [trimN,Nd.e]
theorem trimN_n (x:Nd):(trimN x).n=x.n:=by obtain⟨k,e,n,d,ks⟩:=x;simp [trimN,Nd.n]
mutual
def trimmedN:Nd→Bool
 | .mk k e n d ks=>decide (k=1→8*wordsT d=d.length∧ptrsT ks=ks.length)&&trimmedK ks
def trimmedK:List Nd→Bool
 | []=>true
 | x::xs=>trimmedN x&&trimmedK xs
end
theorem trimmedK_append (a b:List Nd):trimmedK (a++b)=(trimmedK a&&trimmedK b):=by
 induction a with
 | nil=>simp [trimmedK]
 | cons x xs ih=>simp only [List.cons_append,trimmedK,ih,Bool.and_assoc]
theorem trimmedK_take (l:List Nd)(j:Nat)(h:j<l.length):trimmedK (l.take (j+1))=(trimmedK (l.take j)&&trimmedN l[j]):=by
 rw [List.take_succ_eq_append_getElem h,trimmedK_append]
 simp [trimmedK]
theorem trimmedK_no (l:List Nd)(j:Nat)(h:j<l.length)(hb:trimmedN l[j]=false):trimmedK l=false:=by
 have h1:=trimmedK_take l j h
 have h2:=trimmedK_append (l.take (j+1)) (l.drop (j+1))
 rw [List.take_append_drop] at h2
 rw [h2,h1,hb]
 simp
def uniD (ks:List Nd):Nat→Nat
 | 0=>0
 | i+1=>max (uniD ks i) (((ks[i]?.map Nd.d).getD []).length / 8)
def uniP (ks:List Nd):Nat→Nat
 | 0=>0
 | i+1=>max (uniP ks i) (((ks[i]?.map Nd.ks).getD []).length)
theorem uniD_succ {ks:List Nd}{i:Nat}(h:i<ks.length):uniD ks (i+1)=max (uniD ks i) ((ks[i]).d.length / 8):=by simp [uniD,h]
theorem uniP_succ {ks:List Nd}{i:Nat}(h:i<ks.length):uniP ks (i+1)=max (uniP ks i) ((ks[i]).ks.length):=by simp [uniP,h]
theorem wordsF_iff (d:List Int)(m:Nat):∀i,wordsF d i≤m↔∀t,t<i→zat d t≠0→t / 8+1≤m
 | 0=>by simp [wordsF]
 | i+1=>by
  have ih:=wordsF_iff d m i
  unfold wordsF
  by_cases h:zat d i=0
  ·rw [if_pos h,ih]
   constructor
   ·intro g t ht hz
    rcases Nat.lt_or_ge t i with h1|h1
    ·exact g t h1 hz
    ·obtain rfl:t=i:=by omega
     exact absurd h hz
   ·intro g t ht hz
    exact g t (by omega) hz
  ·rw [if_neg h]
   constructor
   ·intro g t ht hz
    have:t / 8≤i / 8:=Nat.div_le_div_right (by omega)
    omega
   ·intro g
    exact g i (by omega) h
theorem ptrsF_iff (ks:List Nd)(m:Nat):∀i,ptrsF ks i≤m↔∀t,t<i→kAt ks t≠0→t+1≤m
 | 0=>by simp [ptrsF]
 | i+1=>by
  have ih:=ptrsF_iff ks m i
  unfold ptrsF
  by_cases h:kAt ks i=0
  ·rw [if_pos h,ih]
   constructor
   ·intro g t ht hz
    rcases Nat.lt_or_ge t i with h1|h1
    ·exact g t h1 hz
    ·obtain rfl:t=i:=by omega
     exact absurd h hz
   ·intro g t ht hz
    exact g t (by omega) hz
  ·rw [if_neg h]
   constructor
   ·intro g t ht hz
    omega
   ·intro g
    exact g i (by omega) h
theorem wordsT_iff (d:List Int)(m:Nat):wordsT d≤m↔∀t,t<d.length→zat d t≠0→t / 8+1≤m:=wordsF_iff d m d.length
theorem ptrsT_iff (ks:List Nd)(m:Nat):ptrsT ks≤m↔∀t,t<ks.length→kAt ks t≠0→t+1≤m:=ptrsF_iff ks m ks.length
theorem wordsT_at {d:List Int}{t:Nat}(ht:t<d.length)(hz:zat d t≠0):t / 8+1≤wordsT d:=(wordsT_iff d _).1 (Nat.le_refl _) t ht hz
theorem ptrsT_at {ks:List Nd}{t:Nat}(ht:t<ks.length)(hz:kAt ks t≠0):t+1≤ptrsT ks:=(ptrsT_iff ks _).1 (Nat.le_refl _) t ht hz
theorem wordsT_take (d:List Int):wordsT (d.take (8*wordsT d))=wordsT d:=by
 apply Nat.le_antisymm
 ·rw [wordsT_iff]
  intro t ht hz
  rw [List.length_take] at ht
  rw [zat_take _ _ _ (by omega)] at hz
  exact wordsT_at (by omega) hz
 ·rw [wordsT_iff]
  intro t ht hz
  have h1:=wordsT_at ht hz
  have h2:t<8*wordsT d:=by omega
  exact wordsT_at (by rw [List.length_take];omega) (by rw [zat_take _ _ _ h2];exact hz)
theorem kAt_trim (ks:List Nd)(t:Nat):kAt (trimK ks) t=kAt ks t:=by
 unfold kAt
 rw [trimK_map,List.getElem?_map]
 cases ks[t]? with
 | none=>rfl
 | some x=>simp [trimN_k]
theorem kAt_take {ks:List Nd}{t n:Nat}(h:t<n):kAt (ks.take n) t=kAt ks t:=by
 unfold kAt
 rw [List.getElem?_take]
 simp [h]
theorem ptrsT_trim (ks:List Nd):ptrsT ((trimK ks).take (ptrsT ks))=ptrsT ks:=by
 have hl:=ptrsT_le ks
 apply Nat.le_antisymm
 ·rw [ptrsT_iff]
  intro t ht hz
  rw [List.length_take,trimK_length] at ht
  omega
 ·rw [ptrsT_iff]
  intro t ht hz
  have h1:=ptrsT_at ht hz
  exact ptrsT_at (by rw [List.length_take,trimK_length];omega) (by rw [kAt_take (by omega),kAt_trim];exact hz)
theorem trimmedK_all {l:List Nd}(h:∀x∈l,trimmedN x=true):trimmedK l=true:=by
 induction l with
 | nil=>rfl
 | cons x xs ih=>
  simp only [trimmedK,h x (List.mem_cons_self ..),ih fun y hy=>h y (List.mem_cons_of_mem _ hy)]
  rfl
theorem validK_mem {k e:Int}{ks:List Nd}(h:validK k e ks=true){y:Nd}(hy:y∈ks):validN y=true∧¬(k=2∧e=7∧y.k≠1):=by
 obtain⟨j,hj,rfl⟩:=List.getElem_of_mem hy
 rcases Bool.eq_false_or_eq_true (validN ks[j]&&!(decide (k=2∧e=7∧(ks[j]).k≠1))) with h3|h3
 ·simp only [Bool.and_eq_true,Bool.not_eq_true',decide_eq_false_iff_not] at h3
  exact h3
 ·rw [validK_no k e ks j hj h3] at h
  cases h
theorem validK_all {k e:Int}{ks:List Nd}(h:∀y∈ks,validN y=true∧¬(k=2∧e=7∧y.k≠1)):validK k e ks=true:=by
 induction ks with
 | nil=>rfl
 | cons x xs ih=>
  obtain⟨h1,h2⟩:=h x (List.mem_cons_self ..)
  simp only [validK,h1,ih fun y hy=>h y (List.mem_cons_of_mem _ hy),decide_eq_false h2]
  rfl
theorem valid_struct {k e n:Int}{d:List Int}{ks:List Nd}(h:validN (.mk k e n d ks)=true)(hk:k=1):d.length % 8=0:=by
 simp only [validN,Bool.and_eq_true] at h
 have h2:=h.2
 unfold headB at h2
 rw [if_neg (by omega),if_pos hk,decide_eq_true_iff] at h2
 exact h2.2.2.1
theorem trimmed_trim:∀x:Nd,validN x=true→trimmedN (trimN x)=true:=Nd.ind (by
 intro k e n d ks ih h
 have hk:=(by simp only [validN,Bool.and_eq_true] at h;exact h.1:validK k e ks=true)
 have hall:∀y∈trimK ks,trimmedN y=true:=by
  intro y hy
  rw [trimK_map,List.mem_map] at hy
  obtain⟨z,hz,rfl⟩:=hy
  exact ih z hz (validK_mem hk hz).1
 simp only [trimN,trimmedN,Bool.and_eq_true,decide_eq_true_eq]
 by_cases h1:k=1
 ·rw [if_pos h1,if_pos h1]
  refine⟨fun _=>⟨?_,?_⟩,trimmedK_all fun y hy=>hall y (List.mem_of_mem_take hy)⟩
  ·rw [wordsT_take,List.length_take]
   have:=wordsT_le d (valid_struct h h1)
   omega
  ·rw [ptrsT_trim,List.length_take,trimK_length]
   have:=ptrsT_le ks
   omega
 ·rw [if_neg h1,if_neg h1]
  exact⟨fun h=>absurd h h1,trimmedK_all hall⟩)
theorem valid_trim:∀x:Nd,validN x=true→validN (trimN x)=true:=Nd.ind (by
 intro k e n d ks ih h
 have h':=h
 simp only [validN,Bool.and_eq_true] at h'
 obtain⟨hk,hh⟩:=h'
 have hall:∀y∈trimK ks,validN y=true∧¬(k=2∧e=7∧y.k≠1):=by
  intro y hy
  rw [trimK_map,List.mem_map] at hy
  obtain⟨z,hz,rfl⟩:=hy
  have:=validK_mem hk hz
  exact⟨ih z hz this.1,by rw [trimN_k];exact this.2⟩
 simp only [trimN,validN,Bool.and_eq_true]
 by_cases h1:k=1
 ·rw [if_pos h1,if_pos h1]
  refine⟨validK_all fun y hy=>hall y (List.mem_of_mem_take hy),?_⟩
  unfold headB at hh ⊢
  rw [if_neg (by omega),if_pos h1,decide_eq_true_iff] at hh ⊢
  obtain⟨g1,g2,g3,g4,g5⟩:=hh
  have:=wordsT_le d g3
  have:=ptrsT_le ks
  refine⟨g1,g2,?_,?_,?_⟩
  ·rw [List.length_take];omega
  ·rw [List.length_take];omega
  ·rw [List.length_take,trimK_length];omega
 ·rw [if_neg h1,if_neg h1]
  refine⟨validK_all hall,?_⟩
  unfold headB at hh ⊢
  rw [trimK_length]
  exact hh)
theorem depth_null {x:Nd}(h:x.k=0):depthN x=0:=by rw [depthN_eq,if_pos h]
theorem depthK_nulls {l:List Nd}(h:∀x∈l,x.k=0):depthK l=0:=by
 induction l with
 | nil=>rfl
 | cons x xs ih=>simp only [depthK,depth_null (h x (List.mem_cons_self ..)),ih fun y hy=>h y (List.mem_cons_of_mem _ hy)];rfl
theorem drop_nulls {ks:List Nd}:∀x∈ks.drop (ptrsT ks),x.k=0:=by
 intro x hx
 obtain⟨j,hj,rfl⟩:=List.getElem_of_mem hx
 rw [List.length_drop] at hj
 rw [List.getElem_drop]
 by_cases h:(ks[ptrsT ks+j]).k=0
 ·exact h
 ·have:=ptrsT_at (ks:=ks) (t:=ptrsT ks+j) (by omega) (by rw [kAt_get (by omega)];exact h)
  omega
theorem depthK_trim {ks:List Nd}(ih:∀x∈ks,depthN (trimN x)=depthN x):depthK (trimK ks)=depthK ks:=by
 induction ks with
 | nil=>rfl
 | cons x xs ih2=>simp only [trimK,depthK,ih x (List.mem_cons_self ..),ih2 fun y hy=>ih y (List.mem_cons_of_mem _ hy)]
theorem trim_drop_nulls (ks:List Nd):∀x∈(trimK ks).drop (ptrsT ks),x.k=0:=by
 intro x hx
 rw [trimK_map,←List.map_drop,List.mem_map] at hx
 obtain⟨y,hy,rfl⟩:=hx
 rw [trimN_k]
 exact drop_nulls y hy
theorem depthK_cut (ks:List Nd):depthK ((trimK ks).take (ptrsT ks))=depthK (trimK ks):=by
 have h:=depthK_append ((trimK ks).take (ptrsT ks)) ((trimK ks).drop (ptrsT ks))
 rw [List.take_append_drop,depthK_nulls (trim_drop_nulls ks)] at h
 omega
theorem trim_kids_depth (x:Nd)(ih:∀y∈x.ks,depthN (trimN y)=depthN y):depthK (trimN x).ks=depthK x.ks:=by
 obtain⟨k,e,n,d,ks⟩:=x
 simp only [trimN,Nd.ks] at *
 split
 ·rw [depthK_cut,depthK_trim ih]
 ·exact depthK_trim ih
theorem depthG_ks (l:List Nd):depthG l=(l.map fun x=>depthK x.ks).foldr max 0:=by
 induction l with
 | nil=>rfl
 | cons x xs ih=>obtain⟨k,e,n,d,ks⟩:=x;simp only [depthG,ih,List.map_cons,List.foldr_cons,Nd.ks]
theorem kid_kid_lt {x y z:Nd}(hy:y∈x.ks)(hz:z∈y.ks):sizeN z<sizeN x:=by
 have h1:=sizeN_kid hy
 have h2:=sizeN_kid hz
 have h3:=sizeK_ks x
 have h4:=sizeK_ks y
 omega
theorem kid_lt {x y:Nd}(hy:y∈x.ks):sizeN y<sizeN x:=by
 have h1:=sizeN_kid hy
 have h3:=sizeK_ks x
 omega
theorem depth_trim:∀x:Nd,depthN (trimN x)=depthN x:=size_ind (by
 intro x ih
 have hkids:=trim_kids_depth x fun y hy=>ih y (kid_lt hy)
 have hG:depthG (trimK x.ks)=depthG x.ks:=by
  rw [depthG_ks,depthG_ks,trimK_map,List.map_map]
  congr 1
  apply List.map_congr_left
  intro y hy
  exact trim_kids_depth y fun z hz=>ih z (kid_kid_lt hy hz)
 obtain⟨k,e,n,d,ks⟩:=x
 simp only [trimN,Nd.ks] at hkids hG
 simp only [trimN,depthN]
 by_cases h2:k=2∧e=7
 ·have h1:¬k=1:=by omega
  rw [if_neg h1,if_pos h2,if_pos h2,hG]
 ·rw [if_neg h2,if_neg h2,hkids])
theorem size_trim:∀x:Nd,sizeN (trimN x)≤sizeN x:=Nd.ind (by
 intro k e n d ks ih
 have hk:sizeK (trimK ks)≤sizeK ks:=by
  clear d
  induction ks with
  | nil=>simp [trimK,sizeK]
  | cons x xs ih2=>
   have h1:=ih x (List.mem_cons_self ..)
   have h2:=ih2 fun y hy=>ih y (List.mem_cons_of_mem _ hy)
   simp only [trimK,sizeK]
   omega
 simp only [trimN,sizeN]
 have h1:=sizeK_take_le (trimK ks) (ptrsT ks)
 have h2:(d.take (8*wordsT d)).length≤d.length:=by rw [List.length_take];omega
 split<;>omega)
end Go.Proofs.YtfaflahfjgnphaaGreatDoor
