/- The texts NodeU, TrimN2, TrimN3, Can3 (what is wanted of them), one after the other. -/
import Derived.Test.YtfaflahfjgnphaaDoorMg20
namespace Go.Proofs.YtfaflahfjgnphaaDoor
open Go.ChangeShapes Go.WideShapes Go.ChangeAt Go.RowKit
set_option linter.unusedVariables false
set_option linter.unusedSimpArgs false
set_option maxRecDepth 100000
def NodAv (base:Nat)(x:Nd):FactU:=fun av v w=>∃A c B c2 lo hi,v=.agg #[.int .i64 x.k,.int .i64 x.e,.int .i64 x.n,.slice A x.d.length c,.slice B x.ks.length c2]∧base≤lo∧hi≤w.heap.size∧NdO lo hi w A c B c2 x∧∀b∈av,b<lo∨hi≤b
theorem NodAv.of {base:Nat}{x:Nd}{av:List Nat}{v:Value}{w w':World}(h:NodF w.heap.size x v w')(hav:∀b∈av,b<w.heap.size)(hb:base≤w.heap.size):NodAv base x av v w':=by
 obtain⟨A,c,B,c2,hi,e,h1,h2⟩:=h
 exact⟨A,c,B,c2,w.heap.size,hi,e,hb,h1,h2,fun b hm=>.inl (hav b hm)⟩
theorem NodAv.zero (base:Nat)(av:List Nat)(w:World):NodAv base nd0 av (.agg #[.int .i64 0,.int .i64 0,.int .i64 0,.slice none 0 0,.slice none 0 0]) w:=
 ⟨none,0,none,0,base,0,rfl,Nat.le_refl _,Nat.zero_le _,fun W _=>nd0_here W 0 (by decide),fun b _=>.inr (Nat.zero_le _)⟩
def Tup2Av (base:Nat)(x:Nd)(r:Value):FactU:=fun av v w=>∃u,v=.tuple #[u,r]∧NodAv base x av u w
def Tup3Av (base:Nat)(x:Nd)(r r':Value):FactU:=fun av v w=>∃u,v=.tuple #[u,r,r']∧NodAv base x av u w
def Tup2W (r:Value):Fact:=fun v _=>∃u,v=.tuple #[u,r]
def Tup3W (r r':Value):Fact:=fun v _=>∃u,v=.tuple #[u,r,r']
theorem Tup2Av.w {base:Nat}{x:Nd}{r:Value}{av:List Nat}{v:Value}{w:World}(h:Tup2Av base x r av v w):Tup2W r v w:=⟨h.choose,h.choose_spec.1⟩
theorem Tup3Av.w {base:Nat}{x:Nd}{r r':Value}{av:List Nat}{v:Value}{w:World}(h:Tup3Av base x r r' av v w):Tup3W r r' v w:=⟨h.choose,h.choose_spec.1⟩
theorem NdO.apart {lo hi:Nat}{w w':World}{A:Option Addr}{c:Nat}{B:Option Addr}{c2:Nat}{x:Nd}(h:NdO lo hi w A c B c2 x)(S:Nat→Prop)(hS:∀b,S b→b<lo∨hi≤b)(hw:∀k,¬S k→w'.heap[k]?=w.heap[k]?):NdO lo hi w' A c B c2 x:=
 h.to fun k h1 h2=>hw k fun hk=>by rcases hS k hk with h|h<;>omega
theorem wordsF_iff (d:List Int)(m:Nat):∀i,wordsF d i≤m↔∀t,t<i→zat d t≠0→t / 8+1≤m
 | 0=>by simp [wordsF]
 | i+1=>by
  have ih:=wordsF_iff d m i
  unfold wordsF
  by_cases h:zat d i=0
  ·rw [if_pos h,ih]
   constructor
   ·intro g t ht hz
    rcases Nat.lt_or_ge t i with h1|h1
    ·exact g t h1 hz
    ·obtain rfl:t=i:=by omega
     exact absurd h hz
   ·intro g t ht hz
    exact g t (by omega) hz
  ·rw [if_neg h]
   constructor
   ·intro g t ht hz
    have:t / 8≤i / 8:=Nat.div_le_div_right (by omega)
    omega
   ·intro g
    exact g i (by omega) h
theorem ptrsF_iff (ks:List Nd)(m:Nat):∀i,ptrsF ks i≤m↔∀t,t<i→kAt ks t≠0→t+1≤m
 | 0=>by simp [ptrsF]
 | i+1=>by
  have ih:=ptrsF_iff ks m i
  unfold ptrsF
  by_cases h:kAt ks i=0
  ·rw [if_pos h,ih]
   constructor
   ·intro g t ht hz
    rcases Nat.lt_or_ge t i with h1|h1
    ·exact g t h1 hz
    ·obtain rfl:t=i:=by omega
     exact absurd h hz
   ·intro g t ht hz
    exact g t (by omega) hz
  ·rw [if_neg h]
   constructor
   ·intro g t ht hz
    omega
   ·intro g
    exact g i (by omega) h
theorem wordsT_iff (d:List Int)(m:Nat):wordsT d≤m↔∀t,t<d.length→zat d t≠0→t / 8+1≤m:=wordsF_iff d m d.length
theorem ptrsT_iff (ks:List Nd)(m:Nat):ptrsT ks≤m↔∀t,t<ks.length→kAt ks t≠0→t+1≤m:=ptrsF_iff ks m ks.length
theorem wordsT_at {d:List Int}{t:Nat}(ht:t<d.length)(hz:zat d t≠0):t / 8+1≤wordsT d:=(wordsT_iff d _).1 (Nat.le_refl _) t ht hz
theorem ptrsT_at {ks:List Nd}{t:Nat}(ht:t<ks.length)(hz:kAt ks t≠0):t+1≤ptrsT ks:=(ptrsT_iff ks _).1 (Nat.le_refl _) t ht hz
theorem wordsT_take (d:List Int):wordsT (d.take (8*wordsT d))=wordsT d:=by
 apply Nat.le_antisymm
 ·rw [wordsT_iff]
  intro t ht hz
  rw [List.length_take] at ht
  rw [zat_take _ _ _ (by omega)] at hz
  exact wordsT_at (by omega) hz
 ·rw [wordsT_iff]
  intro t ht hz
  have h1:=wordsT_at ht hz
  have h2:t<8*wordsT d:=by omega
  exact wordsT_at (by rw [List.length_take];omega) (by rw [zat_take _ _ _ h2];exact hz)
theorem kAt_trim (ks:List Nd)(t:Nat):kAt (trimK ks) t=kAt ks t:=by
 unfold kAt
 rw [trimK_map,List.getElem?_map]
 cases ks[t]? with
 | none=>rfl
 | some x=>simp [trimN_k]
theorem kAt_take {ks:List Nd}{t n:Nat}(h:t<n):kAt (ks.take n) t=kAt ks t:=by
 unfold kAt
 rw [List.getElem?_take]
 simp [h]
theorem ptrsT_trim (ks:List Nd):ptrsT ((trimK ks).take (ptrsT ks))=ptrsT ks:=by
 have hl:=ptrsT_le ks
 apply Nat.le_antisymm
 ·rw [ptrsT_iff]
  intro t ht hz
  rw [List.length_take,trimK_length] at ht
  omega
 ·rw [ptrsT_iff]
  intro t ht hz
  have h1:=ptrsT_at ht hz
  exact ptrsT_at (by rw [List.length_take,trimK_length];omega) (by rw [kAt_take (by omega),kAt_trim];exact hz)
theorem trimmedK_all {l:List Nd}(h:∀x∈l,trimmedN x=true):trimmedK l=true:=by
 induction l with
 | nil=>rfl
 | cons x xs ih=>
  simp only [trimmedK,h x (List.mem_cons_self ..),ih fun y hy=>h y (List.mem_cons_of_mem _ hy)]
  rfl
theorem validK_mem {k e:Int}{ks:List Nd}(h:validK k e ks=true){y:Nd}(hy:y∈ks):validN y=true∧¬(k=2∧e=7∧y.k≠1):=by
 obtain⟨j,hj,rfl⟩:=List.getElem_of_mem hy
 rcases Bool.eq_false_or_eq_true (validN ks[j]&&!(decide (k=2∧e=7∧(ks[j]).k≠1))) with h3|h3
 ·simp only [Bool.and_eq_true,Bool.not_eq_true',decide_eq_false_iff_not] at h3
  exact h3
 ·rw [validK_no k e ks j hj h3] at h
  cases h
theorem validK_all {k e:Int}{ks:List Nd}(h:∀y∈ks,validN y=true∧¬(k=2∧e=7∧y.k≠1)):validK k e ks=true:=by
 induction ks with
 | nil=>rfl
 | cons x xs ih=>
  obtain⟨h1,h2⟩:=h x (List.mem_cons_self ..)
  simp only [validK,h1,ih fun y hy=>h y (List.mem_cons_of_mem _ hy),decide_eq_false h2]
  rfl
theorem valid_struct {k e n:Int}{d:List Int}{ks:List Nd}(h:validN (.mk k e n d ks)=true)(hk:k=1):d.length % 8=0:=by
 simp only [validN,Bool.and_eq_true] at h
 have h2:=h.2
 unfold headB at h2
 rw [if_neg (by omega),if_pos hk,decide_eq_true_iff] at h2
 exact h2.2.2.1
theorem trimmed_trim:∀x:Nd,validN x=true→trimmedN (trimN x)=true:=Nd.ind (by
 intro k e n d ks ih h
 have hk:=(by simp only [validN,Bool.and_eq_true] at h;exact h.1:validK k e ks=true)
 have hall:∀y∈trimK ks,trimmedN y=true:=by
  intro y hy
  rw [trimK_map,List.mem_map] at hy
  obtain⟨z,hz,rfl⟩:=hy
  exact ih z hz (validK_mem hk hz).1
 simp only [trimN,trimmedN,Bool.and_eq_true,decide_eq_true_eq]
 by_cases h1:k=1
 ·rw [if_pos h1,if_pos h1]
  refine⟨fun _=>⟨?_,?_⟩,trimmedK_all fun y hy=>hall y (List.mem_of_mem_take hy)⟩
  ·rw [wordsT_take,List.length_take]
   have:=wordsT_le d (valid_struct h h1)
   omega
  ·rw [ptrsT_trim,List.length_take,trimK_length]
   have:=ptrsT_le ks
   omega
 ·rw [if_neg h1,if_neg h1]
  exact⟨fun h=>absurd h h1,trimmedK_all hall⟩)
theorem valid_trim:∀x:Nd,validN x=true→validN (trimN x)=true:=Nd.ind (by
 intro k e n d ks ih h
 have h':=h
 simp only [validN,Bool.and_eq_true] at h'
 obtain⟨hk,hh⟩:=h'
 have hall:∀y∈trimK ks,validN y=true∧¬(k=2∧e=7∧y.k≠1):=by
  intro y hy
  rw [trimK_map,List.mem_map] at hy
  obtain⟨z,hz,rfl⟩:=hy
  have:=validK_mem hk hz
  exact⟨ih z hz this.1,by rw [trimN_k];exact this.2⟩
 simp only [trimN,validN,Bool.and_eq_true]
 by_cases h1:k=1
 ·rw [if_pos h1,if_pos h1]
  refine⟨validK_all fun y hy=>hall y (List.mem_of_mem_take hy),?_⟩
  unfold headB at hh ⊢
  rw [if_neg (by omega),if_pos h1,decide_eq_true_iff] at hh ⊢
  obtain⟨g1,g2,g3,g4,g5⟩:=hh
  have:=wordsT_le d g3
  have:=ptrsT_le ks
  refine⟨g1,g2,?_,?_,?_⟩
  ·rw [List.length_take];omega
  ·rw [List.length_take];omega
  ·rw [List.length_take,trimK_length];omega
 ·rw [if_neg h1,if_neg h1]
  refine⟨validK_all hall,?_⟩
  unfold headB at hh ⊢
  rw [trimK_length]
  exact hh)
theorem depth_null {x:Nd}(h:x.k=0):depthN x=0:=by rw [depthN_eq,if_pos h]
theorem depthK_nulls {l:List Nd}(h:∀x∈l,x.k=0):depthK l=0:=by
 induction l with
 | nil=>rfl
 | cons x xs ih=>simp only [depthK,depth_null (h x (List.mem_cons_self ..)),ih fun y hy=>h y (List.mem_cons_of_mem _ hy)];rfl
theorem drop_nulls {ks:List Nd}:∀x∈ks.drop (ptrsT ks),x.k=0:=by
 intro x hx
 obtain⟨j,hj,rfl⟩:=List.getElem_of_mem hx
 rw [List.length_drop] at hj
 rw [List.getElem_drop]
 by_cases h:(ks[ptrsT ks+j]).k=0
 ·exact h
 ·have:=ptrsT_at (ks:=ks) (t:=ptrsT ks+j) (by omega) (by rw [kAt_get (by omega)];exact h)
  omega
theorem depthK_trim {ks:List Nd}(ih:∀x∈ks,depthN (trimN x)=depthN x):depthK (trimK ks)=depthK ks:=by
 induction ks with
 | nil=>rfl
 | cons x xs ih2=>simp only [trimK,depthK,ih x (List.mem_cons_self ..),ih2 fun y hy=>ih y (List.mem_cons_of_mem _ hy)]
theorem trim_drop_nulls (ks:List Nd):∀x∈(trimK ks).drop (ptrsT ks),x.k=0:=by
 intro x hx
 rw [trimK_map,←List.map_drop,List.mem_map] at hx
 obtain⟨y,hy,rfl⟩:=hx
 rw [trimN_k]
 exact drop_nulls y hy
theorem depthK_cut (ks:List Nd):depthK ((trimK ks).take (ptrsT ks))=depthK (trimK ks):=by
 have h:=depthK_append ((trimK ks).take (ptrsT ks)) ((trimK ks).drop (ptrsT ks))
 rw [List.take_append_drop,depthK_nulls (trim_drop_nulls ks)] at h
 omega
theorem trim_kids_depth (x:Nd)(ih:∀y∈x.ks,depthN (trimN y)=depthN y):depthK (trimN x).ks=depthK x.ks:=by
 obtain⟨k,e,n,d,ks⟩:=x
 simp only [trimN,Nd.ks] at *
 split
 ·rw [depthK_cut,depthK_trim ih]
 ·exact depthK_trim ih
theorem depthG_ks (l:List Nd):depthG l=(l.map fun x=>depthK x.ks).foldr max 0:=by
 induction l with
 | nil=>rfl
 | cons x xs ih=>obtain⟨k,e,n,d,ks⟩:=x;simp only [depthG,ih,List.map_cons,List.foldr_cons,Nd.ks]
theorem kid_kid_lt {x y z:Nd}(hy:y∈x.ks)(hz:z∈y.ks):sizeN z<sizeN x:=by
 have h1:=sizeN_kid hy
 have h2:=sizeN_kid hz
 have h3:=sizeK_ks x
 have h4:=sizeK_ks y
 omega
theorem kid_lt {x y:Nd}(hy:y∈x.ks):sizeN y<sizeN x:=by
 have h1:=sizeN_kid hy
 have h3:=sizeK_ks x
 omega
theorem depth_trim:∀x:Nd,depthN (trimN x)=depthN x:=size_ind (by
 intro x ih
 have hkids:=trim_kids_depth x fun y hy=>ih y (kid_lt hy)
 have hG:depthG (trimK x.ks)=depthG x.ks:=by
  rw [depthG_ks,depthG_ks,trimK_map,List.map_map]
  congr 1
  apply List.map_congr_left
  intro y hy
  exact trim_kids_depth y fun z hz=>ih z (kid_kid_lt hy hz)
 obtain⟨k,e,n,d,ks⟩:=x
 simp only [trimN,Nd.ks] at hkids hG
 simp only [trimN,depthN]
 by_cases h2:k=2∧e=7
 ·have h1:¬k=1:=by omega
  rw [if_neg h1,if_pos h2,if_pos h2,hG]
 ·rw [if_neg h2,if_neg h2,hkids])
theorem uniD_covers (ks:List Nd)(h8:∀y∈ks,y.d.length % 8=0):∀i,i≤ks.length→∀j (hj:j<ks.length),j<i→(ks[j]).d.length≤8*uniD ks i
 | 0,_,j,_,h=>by omega
 | i+1,hi,j,hj,h=>by
  rw [uniD_succ (by omega)]
  have h1:=h8 ks[j] (List.getElem_mem hj)
  by_cases e:j=i
  ·subst e;omega
  ·have:=uniD_covers ks h8 i (by omega) j hj (by omega)
   omega
theorem uniP_covers (ks:List Nd):∀i,i≤ks.length→∀j (hj:j<ks.length),j<i→(ks[j]).ks.length≤uniP ks i
 | 0,_,j,_,h=>by omega
 | i+1,hi,j,hj,h=>by
  rw [uniP_succ (by omega)]
  by_cases e:j=i
  ·subst e;omega
  ·have:=uniP_covers ks i (by omega) j hj (by omega)
   omega
theorem uniD_le (ks:List Nd)(m:Nat):∀i,i≤ks.length→(∀y∈ks,y.d.length / 8≤m)→uniD ks i≤m
 | 0,_,_=>by simp [uniD]
 | i+1,hi,h=>by
  rw [uniD_succ (by omega)]
  have:=uniD_le ks m i (by omega) h
  have:=h ks[i] (List.getElem_mem (by omega))
  omega
theorem uniP_le (ks:List Nd)(m:Nat):∀i,i≤ks.length→(∀y∈ks,y.ks.length≤m)→uniP ks i≤m
 | 0,_,_=>by simp [uniP]
 | i+1,hi,h=>by
  rw [uniP_succ (by omega)]
  have:=uniP_le ks m i (by omega) h
  have:=h ks[i] (List.getElem_mem (by omega))
  omega
theorem wordsT_zeros (d:List Int)(n:Nat):wordsT (d++List.replicate n 0)=wordsT d:=by
 refine Nat.le_antisymm ?_ ?_
 ·refine(wordsT_iff _ _).2 fun t ht hz=>?_
  by_cases h:t<d.length
  ·have e:zat (d++List.replicate n 0) t=zat d t:=by simp [zat,List.getD,List.getElem?_append_left h]
   exact wordsT_at h (by rw [←e];exact hz)
  ·refine absurd ?_ hz
   rw [List.length_append,List.length_replicate] at ht
   simp [zat,List.getD,List.getElem?_append_right (Nat.le_of_not_lt h)]
   rw [List.getElem?_replicate]
   split<;>rfl
 ·refine(wordsT_iff _ _).2 fun t ht hz=>?_
  have e:zat (d++List.replicate n 0) t=zat d t:=by simp [zat,List.getD,List.getElem?_append_left ht]
  exact wordsT_at (by rw [List.length_append];omega) (by rw [e];exact hz)
theorem ptrsT_nulls (ks ms:List Nd)(hm:∀y∈ms,y.k=0):ptrsT (ks++ms)=ptrsT ks:=by
 refine Nat.le_antisymm ?_ ?_
 ·refine(ptrsT_iff _ _).2 fun t ht hz=>?_
  by_cases h:t<ks.length
  ·have e:kAt (ks++ms) t=kAt ks t:=by simp [kAt,List.getElem?_append_left h]
   exact ptrsT_at h (by rw [←e];exact hz)
  ·refine absurd ?_ hz
   rw [List.length_append] at ht
   rw [kAt_get (by rw [List.length_append];exact ht),List.getElem_append_right (Nat.le_of_not_lt h)]
   exact hm _ (List.getElem_mem _)
 ·refine(ptrsT_iff _ _).2 fun t ht hz=>?_
  have e:kAt (ks++ms) t=kAt ks t:=by simp [kAt,List.getElem?_append_left ht]
  exact ptrsT_at (by rw [List.length_append];omega) (by rw [e];exact hz)
theorem valid_head {k e n:Int}{d:List Int}{ks:List Nd}(h:validN (.mk k e n d ks)=true):
  (k=0∧d.length=0∧ks.length=0)∨(k=1∧d.length % 8=0∧d.length≤524280∧ks.length≤65535)∨(k=2∧0≤n∧n≤536870911∧0≤e∧e≤7∧(6≤e→d.length=0∧(ks.length:Int)=n)∧(e<6→ks.length=0∧(d.length:Int)=bytesI e n)):=by
 simp only [validN,Bool.and_eq_true] at h
 have h2:=h.2
 unfold headB at h2
 by_cases h0:k=0
 ·rw [if_pos h0,decide_eq_true_iff] at h2
  exact .inl ⟨h0,h2.2.2⟩
 rw [if_neg h0] at h2
 by_cases h1:k=1
 ·rw [if_pos h1,decide_eq_true_iff] at h2
  exact .inr (.inl ⟨h1,h2.2.2⟩)
 rw [if_neg h1] at h2
 by_cases h3:k=2
 ·rw [if_pos h3,decide_eq_true_iff] at h2
  exact .inr (.inr ⟨h3,h2.1,h2.2.1,h2.2.2.1,h2.2.2.2.1,h2.2.2.2.2.1,fun h=>⟨(h2.2.2.2.2.2 h).1,(h2.2.2.2.2.2 h).2.1⟩⟩)
 ·rw [if_neg h3] at h2
  cases h2
theorem valid_mem {k e n:Int}{d:List Int}{ks:List Nd}(h:validN (.mk k e n d ks)=true){y:Nd}(hy:y∈ks):validN y=true∧¬(k=2∧e=7∧y.k≠1):=by
 simp only [validN,Bool.and_eq_true] at h
 exact validK_mem h.1 hy
theorem valid_elem {n:Int}{d:List Int}{ks:List Nd}(h:validN (.mk 2 7 n d ks)=true){y:Nd}(hy:y∈ks):y.k=1∧y.d.length / 8≤65535∧y.ks.length≤65535:=by
 obtain⟨h1,h2⟩:=valid_mem h hy
 have hk:y.k=1:=Classical.byContradiction fun h3=>h2 ⟨rfl,rfl,h3⟩
 obtain⟨k,e,n',d',ks'⟩:=y
 simp only [Nd.k] at hk
 rcases valid_head h1 with h3|h3|h3
 ·omega
 ·exact⟨hk,by show d'.length / 8≤65535;omega,h3.2.2.2⟩
 ·omega
theorem uni_bd {n:Int}{d:List Int}{ks:List Nd}(h:validN (.mk 2 7 n d ks)=true):uniD ks ks.length≤65535∧uniP ks ks.length≤65535:=
 ⟨uniD_le ks 65535 ks.length (Nat.le_refl _) fun y hy=>(valid_elem h hy).2.1,uniP_le ks 65535 ks.length (Nat.le_refl _) fun y hy=>(valid_elem h hy).2.2⟩
theorem sizeK_kk2 (l:List Nd):sizeK (kk l)+l.length≤sizeK l:=by
 induction l with
 | nil=>simp [kk,sizeK]
 | cons x xs ih=>
  have h:kk (x::xs)=x.ks++kk xs:=by simp [kk]
  have h2:=sizeK_ks x
  have h3:sizeK (x.ks++kk xs)=sizeK x.ks+sizeK (kk xs):=by
   generalize x.ks=a
   induction a with
   | nil=>simp [sizeK]
   | cons y ys ih2=>simp only [List.cons_append,sizeK,ih2];omega
  rw [h,h3]
  simp only [sizeK,List.length_cons]
  omega
theorem targN_mk (k e n:Int)(d:List Int)(ks:List Nd):targN (.mk k e n d ks)=if k=2∧e=7 then kk ks else ks:=rfl
theorem canO_size {x:Nd}(h:validN x=true):0≤canO x∧canO x≤131071*((sizeN x:Int)-sizeK (targN x))-1+(targN x).length:=by
 obtain⟨k,e,n,d,ks⟩:=x
 have hs:sizeN (.mk k e n d ks)=1+d.length+sizeK ks:=by simp [sizeN]
 have ht:=sizeK_targ (.mk k e n d ks)
 have hk:=sizeK_length ks
 show 0≤canOf k e n d ks∧canOf k e n d ks≤_
 unfold canOf
 rcases valid_head h with ⟨rfl,h1,h2⟩|⟨rfl,h1,h2,h3⟩|⟨rfl,h1,h2,h3,h4,h5,h6⟩
 ·rw [if_pos rfl]
  omega
 ·rw [if_neg (by omega),if_pos rfl]
  have e1:targN (.mk 1 e n d ks)=ks:=by rw [targN_mk,if_neg (by omega)]
  rw [e1,hs]
  omega
 ·rw [if_neg (by omega),if_neg (by omega)]
  by_cases h7:e=7
  ·subst h7
   rw [if_pos rfl]
   have e1:targN (.mk 2 7 n d ks)=kk ks:=by rw [targN_mk,if_pos ⟨rfl,rfl⟩]
   have h8:=sizeK_kk2 ks
   obtain⟨u1,u2⟩:=uni_bd h
   obtain⟨-,hn⟩:=h5 (by omega)
   have m1:0≤n*((uniD ks ks.length+uniP ks ks.length:Nat):Int):=Int.mul_nonneg h1 (by omega)
   have m2:n*((uniD ks ks.length+uniP ks ks.length:Nat):Int)≤n*131070:=Int.mul_le_mul_of_nonneg_left (by omega) h1
   rw [e1,hs]
   omega
  ·rw [if_neg h7]
   have e1:targN (.mk 2 e n d ks)=ks:=by rw [targN_mk,if_neg (by omega)]
   have hb:=bitsI_mul e n h1
   rw [e1,hs]
   by_cases h8:e=6
   ·subst h8
    have e3:wordsI 6 n=n:=by unfold wordsI bitsI;simp;omega
    obtain⟨-,hn⟩:=h5 (by omega)
    rw [e3]
    omega
   ·obtain⟨hk0,hd⟩:=h6 (by omega)
    unfold wordsI
    unfold bytesI at hd
    rw [if_neg h7]
    omega
theorem valid_targ {x:Nd}(h:validN x=true):∀y∈targN x,validN y=true:=by
 intro y hy
 obtain⟨k,e,n,d,ks⟩:=x
 rw [targN_mk] at hy
 split at hy
 ·unfold kk at hy
  obtain⟨z,hz,hy⟩:=List.mem_flatMap.1 hy
  have hzv:=(valid_mem h hz).1
  obtain⟨k',e',n',d',ks'⟩:=z
  exact(valid_mem hzv hy).1
 ·exact(valid_mem h hy).1
theorem can_size:∀x:Nd,validN x=true→0≤canN x∧canN x≤131071*(sizeN x:Int)-1:=size_ind (by
 intro x ih h
 have ho:=canO_size h
 have hK:∀l:List Nd,(∀y∈l,0≤canN y∧canN y≤131071*(sizeN y:Int)-1)→0≤canK l∧canK l≤131071*(sizeK l:Int)-l.length:=by
  intro l hl
  induction l with
  | nil=>simp [canK,sizeK]
  | cons y ys ih2=>
   have h1:=hl y (List.mem_cons_self ..)
   have h2:=ih2 (fun z hz=>hl z (List.mem_cons_of_mem _ hz))
   simp only [canK,sizeK,List.length_cons]
   omega
 have hv:=valid_targ h
 have:=hK (targN x) (fun y hy=>ih y (targ_lt hy) (hv y hy))
 rw [canN_eq]
 omega)
end Go.Proofs.YtfaflahfjgnphaaDoor
