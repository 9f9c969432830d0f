/- The texts EqN, EqO (what is wanted of them), one after the other. -/
import Derived.Test.YtfaflahfjgnphaaGreatDoorMg30
namespace Go.Proofs.YtfaflahfjgnphaaGreatDoor
open Go.ChangeShapes Go.WideShapes Go.ChangeAt Go.RowKit
set_option linter.unusedVariables false
set_option linter.unusedSimpArgs false
set_option maxRecDepth 100000
section
noncomputable def eqT (x y:Nd):Bool:=eqN (trimN x) (trimN y)
def kidN (ks:List Nd)(i:Nat):Nd:=ks.getD i nd0
open Classical in
noncomputable def rowE (ks ks':List Nd):Bool:=decide (∀i,i<max ks.length ks'.length→eqT (kidN ks i) (kidN ks' i)=true)
theorem trim_nd0:trimN nd0=nd0:=by simp [trimN,nd0,trimK]
theorem eqT_iff {x y:Nd}:eqT x y=true↔trimN x=trimN y:=eqN_iff
theorem eqT_nd0:eqT nd0 nd0=true:=eqN_yes rfl
theorem eqT_head {x y:Nd}(h:¬(x.k=y.k∧x.e=y.e∧x.n=y.n)):eqT x y=false:=eqN_no (fun he=>h ⟨by rw [←trimN_k x,he,trimN_k],by rw [←trimN_e x,he,trimN_e],by rw [←trimN_n x,he,trimN_n]⟩)
theorem kidN_out {ks:List Nd}{i:Nat}(h:ks.length≤i):kidN ks i=nd0:=by simp [kidN,List.getD_eq_getElem?_getD,List.getElem?_eq_none h]
theorem kidN_in {ks:List Nd}{i:Nat}(h:i<ks.length):kidN ks i=ks[i]:=by simp [kidN,List.getD_eq_getElem?_getD,h]
theorem rowE_iff {ks ks':List Nd}:rowE ks ks'=true↔∀i,eqT (kidN ks i) (kidN ks' i)=true:=by
 unfold rowE
 rw [decide_eq_true_iff]
 constructor
 ·intro h i
  by_cases hi:i<max ks.length ks'.length
  ·exact h i hi
  ·rw [kidN_out (by omega),kidN_out (by omega)];exact eqT_nd0
 ·exact fun h i _=>h i
theorem rowE_no {ks ks':List Nd}{i:Nat}(h:eqT (kidN ks i) (kidN ks' i)=false):rowE ks ks'=false:=by
 cases hr:rowE ks ks' with
 | false=>rfl
 | true=>rw [rowE_iff.1 hr i] at h;cases h
theorem take_zat (d:List Int)(i:Nat):zat (d.take (8*wordsT d)) i=zat d i:=by
 by_cases h:i<8*wordsT d
 ·exact zat_take _ _ _ h
 ·have h0:zat d i=0:=by
   by_cases hl:i<d.length
   ·by_cases hz:zat d i=0
    ·exact hz
    ·have:=wordsT_at hl hz;omega
   ·exact zat_out (by omega)
  rw [h0]
  exact zat_out (by rw [List.length_take];omega)
theorem take_words_iff {d d':List Int}(h8:d.length % 8=0)(h8':d'.length % 8=0):d.take (8*wordsT d)=d'.take (8*wordsT d')↔∀i,zat d i=zat d' i:=by
 constructor
 ·intro h i
  rw [←take_zat d i,h,take_zat]
 ·intro h
  have hw:∀a b:List Int,(∀i,zat a i=zat b i)→wordsT a≤wordsT b:=fun a b h=>by
   rw [wordsT_iff]
   intro t ht hz
   rw [h] at hz
   exact wordsT_at (Classical.byContradiction fun hc=>hz (zat_out (by omega))) hz
  have e:wordsT d=wordsT d':=Nat.le_antisymm (hw _ _ h) (hw _ _ fun i=>(h i).symm)
  have l1:=wordsT_le d h8
  have l2:=wordsT_le d' h8'
  apply ext_zat
  ·rw [List.length_take,List.length_take];omega
  ·intro i _
   rw [take_zat,take_zat]
   exact h i
theorem kAt_kid (ks:List Nd)(i:Nat):kAt ks i=(kidN ks i).k:=by
 unfold kAt kidN
 rw [List.getD_eq_getElem?_getD]
 cases ks[i]?<;>rfl
theorem null_nd0 {x:Nd}(hv:validN x=true)(h:x.k=0):x=nd0:=by
 obtain⟨k,e,n,d,ks⟩:=x
 simp only [Nd.k] at h
 subst h
 simp only [validN,Bool.and_eq_true] at hv
 have h2:=hv.2
 unfold headB at h2
 rw [if_pos rfl,decide_eq_true_iff] at h2
 obtain⟨h3,h4,h5,h6⟩:=h2
 subst h3 h4
 first
 | (subst h5 h6;rfl)
 | (rw [List.length_eq_zero_iff.1 h5,List.length_eq_zero_iff.1 h6];rfl)
theorem kid_valid {ks:List Nd}(hv:∀y∈ks,validN y=true)(i:Nat):validN (kidN ks i)=true:=by
 by_cases h:i<ks.length
 ·rw [kidN_in h];exact hv _ (List.getElem_mem h)
 ·rw [kidN_out (by omega)];decide
theorem take_kid {ks:List Nd}(hv:∀y∈ks,validN y=true)(i:Nat):kidN ((trimK ks).take (ptrsT ks)) i=trimN (kidN ks i):=by
 have hl:=ptrsT_le ks
 by_cases h:i<ptrsT ks
 ·have h1:i<((trimK ks).take (ptrsT ks)).length:=by rw [List.length_take,trimK_length];omega
  rw [kidN_in h1,kidN_in (show i<ks.length by omega),List.getElem_take,trimK_get]
 ·rw [kidN_out (by rw [List.length_take,trimK_length];omega)]
  have h0:kidN ks i=nd0:=by
   by_cases hi:i<ks.length
   ·refine null_nd0 (kid_valid hv i) (Classical.byContradiction fun hk=>?_)
    have:=ptrsT_at hi (by rw [kAt_kid];exact hk)
    omega
   ·exact kidN_out (by omega)
  rw [h0,trim_nd0]
theorem take_kids_iff {ks ks':List Nd}(hv:∀y∈ks,validN y=true)(hv':∀y∈ks',validN y=true):(trimK ks).take (ptrsT ks)=(trimK ks').take (ptrsT ks')↔rowE ks ks'=true:=by
 rw [rowE_iff]
 constructor
 ·intro h i
  rw [eqT_iff,←take_kid hv i,h,take_kid hv']
 ·intro h
  have hk:∀i,trimN (kidN ks i)=trimN (kidN ks' i):=fun i=>eqT_iff.1 (h i)
  have hw:∀a b:List Nd,(∀i,trimN (kidN a i)=trimN (kidN b i))→ptrsT a≤ptrsT b:=fun a b h=>by
   rw [ptrsT_iff]
   intro t ht hz
   rw [kAt_kid,←trimN_k,h t,trimN_k,←kAt_kid] at hz
   refine ptrsT_at (Classical.byContradiction fun hc=>hz ?_) hz
   rw [kAt_kid,kidN_out (by omega)]
   rfl
  have e:ptrsT ks=ptrsT ks':=Nat.le_antisymm (hw _ _ hk) (hw _ _ fun i=>(hk i).symm)
  have l1:=ptrsT_le ks
  have l2:=ptrsT_le ks'
  apply List.ext_getElem
  ·rw [List.length_take,List.length_take,trimK_length,trimK_length];omega
  ·intro i h1 h2
   rw [←kidN_in h1,←kidN_in h2,take_kid hv,take_kid hv']
   exact hk i
theorem byte0 (j:Nat):byteOf 0 j=0:=by unfold byteOf;simp
theorem bytesOf_at (l:List Int)(i:Nat):zat (bytesOf l) i=byteOf (zat l (i / 8)) (i % 8):=by
 by_cases h:i / 8<l.length
 ·have:=bytesOf_zat l (i / 8) (i % 8) h (by omega)
  rw [show 8*(i / 8)+i % 8=i by omega] at this
  exact this
 ·rw [zat_out (by rw [bytesOf_length];omega),zat_out (show l.length≤i / 8 by omega),byte0]
theorem word_at {l:List Int}(h:Wds l)(i:Nat):zat l i=leF (fun j=>zat (bytesOf l) (8*i+j)) 8:=by
 rw [leF_congr (y:=byteOf (zat l i)) 8 (fun j hj=>by rw [bytesOf_at,show (8*i+j) / 8=i by omega,show (8*i+j) % 8=j by omega]),leF_byteOf]
 have:=h.at i
 omega
theorem bytes_iff {a b:List Int}(ha:Wds a)(hb:Wds b):(∀i,zat (bytesOf a) i=zat (bytesOf b) i)↔∀i,zat a i=zat b i:=by
 constructor
 ·intro h i
  rw [word_at ha,word_at hb]
  exact leF_congr 8 (fun j _=>h _)
 ·intro h i
  rw [bytesOf_at,bytesOf_at,h]
theorem eqT_str {a b:List Int}{ks ks':List Nd}(ha:Wds a)(hb:Wds b)(hv:∀y∈ks,validN y=true)(hv':∀y∈ks',validN y=true):eqT (.mk 1 0 0 (bytesOf a) ks) (.mk 1 0 0 (bytesOf b) ks')=(dataE a b&&rowE ks ks'):=by
 rw [Bool.eq_iff_iff,eqT_iff,Bool.and_eq_true,dataE_iff,←bytes_iff ha hb,←take_words_iff (by rw [bytesOf_length];omega) (by rw [bytesOf_length];omega),←take_kids_iff hv hv']
 simp only [trimN,if_pos]
 constructor
 ·intro h
  injection h with _ _ _ h1 h2
  exact⟨h1,h2⟩
 ·rintro⟨h1,h2⟩
  rw [h1,h2]
theorem eqT_lst {e n:Int}{d:List Int}{ks ks':List Nd}(hl:ks.length=ks'.length):eqT (.mk 2 e n d ks) (.mk 2 e n d ks')=rowE ks ks':=by
 rw [Bool.eq_iff_iff,eqT_iff,rowE_iff]
 simp only [trimN,if_neg (show ¬((2:Int)=1) by decide)]
 have hg:∀(ks:List Nd) i,trimN (kidN ks i)=kidN (trimK ks) i:=fun ks i=>by
  by_cases h:i<ks.length
  ·rw [kidN_in h,kidN_in (by rw [trimK_length];exact h),trimK_get]
  ·rw [kidN_out (by omega),kidN_out (by rw [trimK_length];omega),trim_nd0]
 constructor
 ·intro h i
  injection h with _ _ _ _ h2
  rw [eqT_iff,hg,hg,h2]
 ·intro h
  have:trimK ks=trimK ks':=by
   apply List.ext_getElem (by rw [trimK_length,trimK_length,hl])
   intro i h1 h2
   rw [←kidN_in h1,←kidN_in h2,←hg,←hg]
   exact eqT_iff.1 (h i)
  rw [this]
theorem eqT_dat {e n:Int}{d d':List Int}:eqT (.mk 2 e n d []) (.mk 2 e n d' [])=true↔d=d':=by
 rw [eqT_iff]
 simp only [trimN,if_neg (show ¬((2:Int)=1) by decide),trimK]
 constructor
 ·intro h
  injection h
 ·intro h
  rw [h]
theorem mod_two {x y a b:Nat}(ha:0<a):x % (a*b)=y % (a*b)↔x % a=y % a∧x / a % b=y / a % b:=by
 rw [Nat.mod_mul,Nat.mod_mul]
 have h1:=Nat.mod_lt x ha
 have h2:=Nat.mod_lt y ha
 constructor
 ·intro h
  have h3:x % a=y % a:=by
   have h4:(x % a+a*(x / a % b)) % a=(y % a+a*(y / a % b)) % a:=by rw [h]
   rw [Nat.add_mul_mod_self_left,Nat.add_mul_mod_self_left,Nat.mod_mod,Nat.mod_mod] at h4
   exact h4
  refine⟨h3,?_⟩
  rw [h3] at h
  exact Nat.eq_of_mul_eq_mul_left ha (Nat.add_left_cancel h)
 ·rintro⟨h3,h4⟩
  rw [h3,h4]
theorem mod_bytes (x y:Nat):∀q,x % 2 ^ (8*q)=y % 2 ^ (8*q)↔∀j,j<q→x / 2 ^ (8*j) % 256=y / 2 ^ (8*j) % 256
 | 0=>by simp [Nat.mod_one]
 | q+1=>by
  have ih:=mod_bytes x y q
  have e:2 ^ (8*(q+1))=2 ^ (8*q)*256:=by rw [Nat.mul_add,Nat.pow_add]
  rw [e,mod_two (Nat.two_pow_pos _),ih]
  constructor
  ·rintro⟨h1,h2⟩ j hj
   by_cases h:j=q
   ·subst h;exact h2
   ·exact h1 j (by omega)
  ·intro h
   exact⟨fun j hj=>h j (by omega),h q (by omega)⟩
theorem mod_bits (x y u:Nat):x % 2 ^ u=y % 2 ^ u↔∀j,8*j<u→x / 2 ^ (8*j) % 256 % 2 ^ (min (u-8*j) 8)=y / 2 ^ (8*j) % 256 % 2 ^ (min (u-8*j) 8):=by
 have e:2 ^ u=2 ^ (8*(u / 8))*2 ^ (u % 8):=by rw [←Nat.pow_add];congr 1;omega
 have hd:(2:Nat) ^ (u % 8) ∣ 256:=by
  have:(256:Nat)=2 ^ 8:=rfl
  rw [this]
  exact Nat.pow_dvd_pow 2 (by omega)
 have hfull:∀z j,8*j+8≤u→z % 256 % 2 ^ (min (u-8*j) 8)=z % 256:=fun z j h=>by
  rw [show min (u-8*j) 8=8 by omega]
  exact Nat.mod_mod z 256
 have hlast:∀z,z % 256 % 2 ^ (min (u-8*(u / 8)) 8)=z % 2 ^ (u % 8):=fun z=>by
  rw [show min (u-8*(u / 8)) 8=u % 8 by omega]
  exact Nat.mod_mod_of_dvd z hd
 rw [e,mod_two (Nat.two_pow_pos _),mod_bytes]
 constructor
 ·rintro⟨h1,h2⟩ j hj
  by_cases h:8*j+8≤u
  ·rw [hfull _ _ h,hfull _ _ h]
   exact h1 j (by omega)
  ·obtain rfl:j=u / 8:=by omega
   rw [hlast,hlast]
   exact h2
 ·intro h
  refine⟨fun j hj=>?_,?_⟩
  ·have:=h j (by omega)
   rw [hfull _ _ (by omega),hfull _ _ (by omega)] at this
   exact this
  ·by_cases h0:u % 8=0
   ·rw [h0]
    simp [Nat.mod_one]
   ·have:=h (u / 8) (by omega)
    rw [hlast,hlast] at this
    exact this
theorem byteOf_nat (x j:Nat):byteOf (x:Int) j=((x / 2 ^ (8*j) % 256:Nat):Int):=by
 unfold byteOf
 rw [Nat.pow_mul]
 simp
theorem fld_bits {x y:Int}(hx:0≤x)(hy:0≤y)(u:Nat):fld x 0 u=fld y 0 u↔∀j,8*j<u→byteOf x j % 2 ^ (min (u-8*j) 8)=byteOf y j % 2 ^ (min (u-8*j) 8):=by
 obtain⟨a,rfl⟩:=Int.eq_ofNat_of_zero_le hx
 obtain⟨b,rfl⟩:=Int.eq_ofNat_of_zero_le hy
 have h0:∀a:Nat,fld (a:Int) 0 u=((a % 2 ^ u:Nat):Int):=fun a=>by unfold fld fldN;simp
 have hc:∀(z m:Nat),((z:Int)) % 2 ^ m=((z % 2 ^ m:Nat):Int):=fun z m=>by simp
 rw [h0,h0,Int.ofNat_inj,mod_bits]
 constructor
 ·intro h j hj
  rw [byteOf_nat,byteOf_nat,hc,hc,h j hj]
 ·intro h j hj
  have:=h j hj
  rw [byteOf_nat,byteOf_nat,hc,hc] at this
  exact Int.ofNat_inj.1 this
theorem trimAt_mod {l:List Int}(hl:Bts l){e n:Int}(he0:0≤e)(he:e<6)(hn:0≤n){T t:Nat}(hT:bitsI e*n=T)(ht:8*t<T):trimAt l e n t=zat l t % 2 ^ (min (T-8*t) 8):=by
 have hb:=hl.at t
 have hfull:(zat l t) % 2 ^ 8=zat l t:=by
  rw [show ((2:Int) ^ 8)=256 from rfl]
  omega
 unfold trimAt
 by_cases h:e=1∧n<8*(t:Int)+8
 ·rw [if_pos h]
  obtain⟨rfl,h2⟩:=h
  have hnT:n=T:=by rw [←hT];show n=1*n;omega
  unfold p2
  rw [show (n-8*(t:Int)).toNat=min (T-8*t) 8 by omega]
 ·rw [if_neg h]
  have h8:min (T-8*t) 8=8:=by
   rcases(by omega:e=0∨e=1∨e=2∨e=3∨e=4∨e=5) with h'|h'|h'|h'|h'|h'<;>subst h'
   ·rw [show bitsI 0=0 from rfl] at hT;omega
   ·rw [show bitsI 1=1 from rfl] at hT;omega
   ·rw [show bitsI 2=8 from rfl] at hT;omega
   ·rw [show bitsI 3=16 from rfl] at hT;omega
   ·rw [show bitsI 4=32 from rfl] at hT;omega
   ·rw [show bitsI 5=64 from rfl] at hT;omega
  rw [h8,hfull]
theorem trim_iff {a b:List Int}(ha:Wds a)(hb:Wds b){e n:Int}(he0:0≤e)(he:e<6)(hn:0≤n){T N:Nat}(hT:bitsI e*n=T)(hN:wordsI e n=N):
  trimL (bytesOf a) e n=trimL (bytesOf b) e n↔∀i,i<N→fld (zat a i) 0 ((min (T-64*i) 64:Nat):Int)=fld (zat b i) 0 ((min (T-64*i) 64:Nat):Int):=by
 unfold wordsI at hN
 rw [if_neg (by omega),hT] at hN
 have hB:(bytesI e n).toNat=(T+7) / 8:=by unfold bytesI;rw [hT];omega
 have h1:trimL (bytesOf a) e n=trimL (bytesOf b) e n↔∀t,8*t<T→zat (bytesOf a) t % 2 ^ (min (T-8*t) 8)=zat (bytesOf b) t % 2 ^ (min (T-8*t) 8):=by
  constructor
  ·intro h t ht
   have h2:zat (trimL (bytesOf a) e n) t=zat (trimL (bytesOf b) e n) t:=by rw [h]
   rw [trimL_zat _ _ _ _ (by omega),trimL_zat _ _ _ _ (by omega),trimAt_mod (bytesOf_bts a) he0 he hn hT ht,trimAt_mod (bytesOf_bts b) he0 he hn hT ht] at h2
   exact h2
  ·intro h
   apply ext_zat (by rw [trimL_length,trimL_length])
   intro t ht
   rw [trimL_length] at ht
   rw [trimL_zat _ _ _ _ ht,trimL_zat _ _ _ _ ht,trimAt_mod (bytesOf_bts a) he0 he hn hT (by omega),trimAt_mod (bytesOf_bts b) he0 he hn hT (by omega)]
   exact h t (by omega)
 rw [h1]
 constructor
 ·intro h i hi
  rw [fld_bits (ha.at i).1 (hb.at i).1]
  intro j hj
  have h2:=h (8*i+j) (by omega)
  rw [bytesOf_at,bytesOf_at,show (8*i+j) / 8=i by omega,show (8*i+j) % 8=j by omega,show min (T-8*(8*i+j)) 8=min (min (T-64*i) 64-8*j) 8 by omega] at h2
  exact h2
 ·intro h t ht
  have h2:=(fld_bits (ha.at (t / 8)).1 (hb.at (t / 8)).1 _).1 (h (t / 8) (by omega)) (t % 8) (by omega)
  rw [bytesOf_at,bytesOf_at,show min (T-8*t) 8=min (min (T-64*(t / 8)) 64-8*(t % 8)) 8 by omega]
  exact h2
end
section
def OkV (ls:List (List Int))(r:Nat)(s a:Int)(X:Nd):Prop:=∃m,(valV ls r m s a).e=0∧(valV ls r m s a).n=X
def KidsOk (ls:List (List Int))(r:Nat)(o:Ob)(ks:List Nd):Prop:=ks.length=(ptrO o).2.toNat∧∀i,i<ks.length→OkV ls r o.sg ((ptrO o).1+(i:Int)) (kidN ks i)
def ElsOk (ls:List (List Int))(r:Nat)(o:Ob)(es:List Nd):Prop:=es.length=o.n.toNat∧∀i,i<es.length→∃ks,kidN es i=.mk 1 0 0 (datO ls (eleO o (i:Int))) ks∧KidsOk ls r (eleO o (i:Int)) ks
def NodOk (ls:List (List Int))(r:Nat)(o:Ob)(X:Nd):Prop:=(o.el≠7∧∃ks,X=.mk o.k o.el o.n (datO ls o) ks∧KidsOk ls r o ks)∨(o.el=7∧∃es,X=.mk o.k o.el o.n [] es∧ElsOk ls r o es)
def ObjOk (ls:List (List Int))(r:Nat)(o:Ob)(X:Nd):Prop:=(o=ob0∧X=nd0)∨(0<r∧o.k≠0∧(∃s a,objF ls s a=(o,0))∧NodOk ls (r-1) o X)
theorem runK_getE {f:Int→Nat→Val}{m:Int}:∀n,(runK f m n).e=0→∀i,i<n→∃m',(f m' i).e=0∧(f m' i).n=kidN (runK f m n).ks i
 | 0,_,i,hi=>absurd hi (Nat.not_lt_zero _)
 | n+1,h,i,hi=>by
  obtain⟨e1,e2⟩:=runK_succ0 h
  have hl:=runK_length e1
  rw [runK_ok e1 e2]
  by_cases hin:i=n
  ·subst hin
   refine⟨_,e2,?_⟩
   rw [kidN_in (by simp;omega)]
   simp [List.getElem_append_right,hl]
  ·obtain⟨m',h1,h2⟩:=runK_getE n e1 i (by omega)
   refine⟨m',h1,?_⟩
   rw [h2,kidN_in (by omega),kidN_in (by simp;omega),List.getElem_append_left]
theorem kids_of {ls:List (List Int)}{r:Nat}{o:Ob}{m:Int}(h:(kidR (valV ls r) o m).e=0):KidsOk ls r o (kidR (valV ls r) o m).ks:=by
 have hl:=runK_length h
 refine⟨hl,fun i hi=>?_⟩
 obtain⟨m',h1,h2⟩:=runK_getE _ h i (by rw [←hl];exact hi)
 exact⟨m',h1,h2⟩
theorem cont_of {ls:List (List Int)}{r:Nat}{o:Ob}{m:Int}(h:(contK (valV ls r) ls m o).e=0):∃ks,(contK (valV ls r) ls m o).n=.mk o.k o.el o.n (datO ls o) ks∧KidsOk ls r o ks:=by
 by_cases h1:(kidR (valV ls r) o m).e=0
 ·have h2:contK (valV ls r) ls m o=⟨.mk o.k o.el o.n (datO ls o) (kidR (valV ls r) o m).ks,(kidR (valV ls r) o m).m,0⟩:=by unfold contK;rw [if_neg (fun h=>h h1)]
  rw [h2]
  exact⟨_,rfl,kids_of h1⟩
 ·have h2:contK (valV ls r) ls m o=errV (kidR (valV ls r) o m).m (kidR (valV ls r) o m).e:=by unfold contK;rw [if_pos h1]
  rw [h2] at h
  exact absurd h h1
theorem body_of {ls:List (List Int)}{r:Nat}{o:Ob}{m:Int}(h:(bodyK (valV ls r) ls m o).e=0):NodOk ls r o (bodyK (valV ls r) ls m o).n:=by
 by_cases h7:o.el=7
 ·by_cases h1:(elsR (valV ls r) ls o m).e=0
  ·have h2:bodyK (valV ls r) ls m o=⟨.mk o.k o.el o.n [] (elsR (valV ls r) ls o m).ks,(elsR (valV ls r) ls o m).m,0⟩:=by unfold bodyK;rw [if_pos h7,if_neg (fun h=>h h1)]
   rw [h2]
   have hl:=runK_length h1
   refine .inr ⟨h7,_,rfl,hl,fun i hi=>?_⟩
   obtain⟨m',h3,h4⟩:=runK_getE _ h1 i (by rw [←hl];exact hi)
   obtain⟨ks,h5,h6⟩:=cont_of h3
   exact⟨ks,by show kidN (elsR (valV ls r) ls o m).ks i=_;rw [show elsR (valV ls r) ls o m=runK (fun m i=>contK (valV ls r) ls m (eleO o i)) m o.n.toNat from rfl,←h4,h5];rfl,h6⟩
  ·have h2:bodyK (valV ls r) ls m o=errV (elsR (valV ls r) ls o m).m (elsR (valV ls r) ls o m).e:=by unfold bodyK;rw [if_pos h7,if_pos h1]
   rw [h2] at h
   exact absurd h h1
 ·have h2:bodyK (valV ls r) ls m o=contK (valV ls r) ls m o:=by unfold bodyK;rw [if_neg h7]
  rw [h2] at h ⊢
  obtain⟨ks,h5,h6⟩:=cont_of h
  exact .inl ⟨h7,ks,h5,h6⟩
section
variable {ls:List (List Int)} (hw:Wd2 ls) (hm:ls.length≤40) (hf:∀j,(seg ls j).length≤20000000)
include hw hm hf
theorem okV_obj {r:Nat}{s a:Int}{X:Nd}(h:OkV ls r s a X):ObjOk ls r (objF ls s a).1 X:=by
 obtain⟨m,he,rfl⟩:=h
 have hv:=valV_loc hw hm hf ((r:Int)-1) m s a 0 r (by omega)
 by_cases hL:(locD ls ((r:Int)-1) m s a 0).e≠0
 ·rw [if_pos hL] at hv
  rw [hv] at he
  exact absurd he hL
 rw [if_neg hL] at hv
 have hS:=objF_some ls s a
 unfold locD at hv hL
 by_cases h1:(followF ls s a).e≠0∨(followF ls s a).w=0
 ·have hq:locQ (followF ls s a) (objF ls s a) ((r:Int)-1) m 0=⟨ob0,m,(followF ls s a).e⟩:=by unfold locQ;rw [if_pos h1]
  rw [hq] at hv hL
  have ho:objF ls s a=(ob0,(followF ls s a).e):=by unfold objF;rw [if_pos h1]
  rw [ho,hv]
  exact .inl ⟨rfl,rfl⟩
 ·have h2:¬((r:Int)-1<0):=fun h=>hL (by unfold locQ;rw [if_neg h1,if_pos h];exact(by decide:(7:Int)≠0))
  have h3:¬(objF ls s a).2≠0:=fun h=>hL (by unfold locQ;rw [if_neg h1,if_neg h2,if_pos h];exact h)
  have h4:¬m<(objF ls s a).1.cost:=fun h=>hL (by unfold locQ;rw [if_neg h1,if_neg h2,if_neg h3,if_pos h];exact(by decide:(8:Int)≠0))
  have hq:locQ (followF ls s a) (objF ls s a) ((r:Int)-1) m 0=⟨(objF ls s a).1,m-(objF ls s a).1.cost,0⟩:=by unfold locQ;rw [if_neg h1,if_neg h2,if_neg h3,if_neg h4]
  rw [hq] at hv
  have h30:(objF ls s a).2=0:=Classical.byContradiction h3
  rw [hv] at he ⊢
  refine .inr ⟨by omega,hS (Classical.byContradiction fun h=>h1 (.inl h)) (fun h=>h1 (.inr h)) h30,⟨s,a,Prod.ext rfl h30⟩,body_of he⟩
theorem okV_valid {r:Nat}{s a:Int}{X:Nd}(h:OkV ls r s a X):validN X=true:=by
 obtain⟨m,he,rfl⟩:=h
 exact valV_valid hw hm hf _ _ _ _
theorem kids_valid {r:Nat}{o:Ob}{ks:List Nd}(h:KidsOk ls r o ks):∀y∈ks,validN y=true:=by
 intro y hy
 obtain⟨i,hi,rfl⟩:=List.getElem_of_mem hy
 rw [←kidN_in hi]
 exact okV_valid hw hm hf (h.2 i hi)
theorem located {o:Ob}(h:∃s a,objF ls s a=(o,0)):0≤o.k∧o.k≤2∧0≤o.sg∧o.sg≤40∧0≤o.at'∧o.at'≤20000001∧0≤o.d∧o.d≤65535∧0≤o.p∧o.p≤65535∧0≤o.el∧o.el≤7∧0≤o.n∧o.n≤536870911∧0≤o.n*(o.d+o.p)∧o.n*(o.d+o.p)≤20000000:=by
 obtain⟨s,a,hq⟩:=h
 have:=objF_num hw hm hf s a hq
 simp only at this
 omega
theorem located_str {o:Ob}(h:∃s a,objF ls s a=(o,0))(hk:o.k=1):o.el=0∧o.n=0:=by
 obtain⟨s,a,hq⟩:=h
 rcases objF_cases hw (by omega) (fun j=>by have:=hf j;omega) s a with ⟨h1,-⟩|⟨-,h1,h2,h3,-⟩|⟨-,h1,-⟩|⟨-,h1,-⟩
 all_goals rw [hq] at h1
 ·simp only at h1
  rw [h1] at hk
  exact absurd hk (by decide)
 ·rw [hq] at h2 h3
  exact⟨h2,h3⟩
 ·simp only at h1;omega
 ·simp only at h1;omega
theorem located_lst {o:Ob}(h:∃s a,objF ls s a=(o,0))(hk:o.k=2)(h6:o.el<6):inB ls o.sg o.at' (wordsI o.el o.n)=true:=by
 obtain⟨s,a,hq⟩:=h
 rcases objF_cases hw (by omega) (fun j=>by have:=hf j;omega) s a with ⟨h1,-⟩|⟨-,h1,h2,h3,-⟩|⟨-,h1,-,-,-,-,-,-,h2,h3⟩|⟨-,h1,h2,-⟩
 all_goals rw [hq] at h1
 ·simp only at h1
  rw [h1] at hk
  exact absurd hk (by decide)
 ·simp only at h1;omega
 ·rw [hq] at h2 h3
  simp only at h2 h3
  rw [h2] at h3
  exact h3
 ·rw [hq] at h2
  simp only at h2
  omega
end
theorem datW_at {ls:List (List Int)}{s a n:Int}(h:inB ls s a n=true){i:Nat}(hi:(i:Int)<n):zat (datW ls s a n) i=wordV ls s (a+(i:Int))∧hasB ls s (a+(i:Int))=true:=by
 have h1:=inB_iff.1 h
 have h2:hasB ls s (a+(i:Int))=true:=by unfold hasB;rw [decide_eq_true_iff];omega
 refine⟨?_,h2⟩
 unfold datW wordV sliceL
 rw [if_pos h,if_pos h2,zat_take _ _ _ (by omega),zat_drop]
 congr 1
 omega
theorem objOk_head {ls:List (List Int)}{r:Nat}{o:Ob}{X:Nd}(h:ObjOk ls r o X):X.k=o.k∧X.e=o.el∧X.n=o.n:=by
 rcases h with ⟨rfl,rfl⟩|⟨-,-,-,h⟩
 ·exact⟨rfl,rfl,rfl⟩
 ·rcases h with ⟨-,ks,rfl,-⟩|⟨-,es,rfl,-⟩<;>exact⟨rfl,rfl,rfl⟩
theorem eqT_strO {ms ns:List (List Int)}(hwm:Wd2 ms)(hmm:ms.length≤40)(hfm:∀j,(seg ms j).length≤20000000)(hwn:Wd2 ns)(hmn:ns.length≤40)(hfn:∀j,(seg ns j).length≤20000000){r:Nat}{o p:Ob}{ks ks':List Nd}(ho:o.k=1)(hp:p.k=1)(h:KidsOk ms r o ks)(h':KidsOk ns r p ks'):
  eqT (.mk 1 0 0 (datO ms o) ks) (.mk 1 0 0 (datO ns p) ks')=(dataE (datW ms o.sg o.at' o.d) (datW ns p.sg p.at' p.d)&&rowE ks ks'):=by
 have h1:datO ms o=bytesOf (datW ms o.sg o.at' o.d):=by unfold datO;rw [if_pos ho]
 have h2:datO ns p=bytesOf (datW ns p.sg p.at' p.d):=by unfold datO;rw [if_pos hp]
 rw [h1,h2]
 exact eqT_str (datW_wds hwm _ _ _) (datW_wds hwn _ _ _) (kids_valid hwm hmm hfm h) (kids_valid hwn hmn hfn h')
theorem kids_nil {ls:List (List Int)}{r:Nat}{o:Ob}{ks:List Nd}(h:KidsOk ls r o ks)(h0:(ptrO o).2.toNat=0):ks=[]:=List.length_eq_zero_iff.1 (h.1.trans h0)
theorem ptrO_lst {o:Ob}(h:o.k=2)(h6:o.el≠6):ptrO o=(0,0):=by
 unfold ptrO
 rw [if_neg (by omega),if_neg (fun h=>h6 h.2.1)]
theorem ptrO_num (o:Ob)(h:o.k=1∨o.k=2∨o.k=0):(o.k=1→(ptrO o).2.toNat=o.p.toNat)∧(o.k=2→o.el=6→(ptrO o).2.toNat=o.n.toNat):=by
 refine⟨fun h1=>?_,fun h1 h2=>?_⟩
 ·unfold ptrO
  by_cases h3:0<o.p
  ·rw [if_pos ⟨h1,h3⟩]
  ·rw [if_neg (by omega),if_neg (by omega)]
   simp only
   omega
 ·unfold ptrO
  by_cases h3:0<o.n
  ·rw [if_neg (by omega),if_pos ⟨h1,h2,h3⟩]
  ·rw [if_neg (by omega),if_neg (by omega)]
   simp only
   omega
theorem els_void {ms ns:List (List Int)}{r r':Nat}{o p:Ob}{es es':List Nd}(ho:o.d+o.p=0)(hp:p.d+p.p=0)(ho0:0≤o.d)(hp0:0≤p.d)(ho1:0≤o.p)(hp1:0≤p.p)(hn:o.n=p.n)(h:ElsOk ms r o es)(h':ElsOk ns r' p es'):rowE es es'=true:=by
 rw [rowE_iff]
 have hv:∀(ls:List (List Int)) (r:Nat) (o:Ob) (es:List Nd),0≤o.d→0≤o.p→o.d+o.p=0→ElsOk ls r o es→∀i,i<es.length→kidN es i=.mk 1 0 0 [] []:=fun ls r o es h0 h1 h2 h i hi=>by
  obtain⟨ks,h3,h4⟩:=h.2 i hi
  have h5:ks=[]:=kids_nil h4 (by rw [(ptrO_num (eleO o i) (.inl rfl)).1 rfl];show o.p.toNat=0;omega)
  have h6:datO ls (eleO o (i:Int))=[]:=by
   have hd:o.d=0:=by omega
   unfold datO
   rw [if_pos (show (eleO o (i:Int)).k=1 from rfl)]
   have:datW ls (eleO o (i:Int)).sg (eleO o (i:Int)).at' (eleO o (i:Int)).d=[]:=List.length_eq_zero_iff.1 (by have:=datW_le ls (eleO o (i:Int)).sg (eleO o (i:Int)).at' (eleO o (i:Int)).d;have h7:(eleO o (i:Int)).d=0:=hd;rw [h7] at this ⊢;simp at this ⊢;exact this)
   rw [this]
   rfl
  rw [h3,h5,h6]
 intro i
 have hl:es.length=es'.length:=by rw [h.1,h'.1,hn]
 by_cases hi:i<es.length
 ·rw [hv _ _ _ _ ho0 ho1 ho h i hi,hv _ _ _ _ hp0 hp1 hp h' i (by omega)]
  exact eqN_yes rfl
 ·rw [kidN_out (by omega),kidN_out (by omega)]
  exact eqT_nd0
theorem eqT_datO {ms ns:List (List Int)}(hwm:Wd2 ms)(hwn:Wd2 ns){r r':Nat}{o p:Ob}{ks ks':List Nd}(hk:o.k=2)(hk':p.k=2)(he:p.el=o.el)(hn':p.n=o.n)(he0:0≤o.el)(h6:o.el<6)(hn:0≤o.n)(hi:inB ms o.sg o.at' (wordsI o.el o.n)=true)(hi':inB ns p.sg p.at' (wordsI p.el p.n)=true)(h:KidsOk ms r o ks)(h':KidsOk ns r' p ks'){T N:Nat}(hT:bitsI o.el*o.n=T)(hN:wordsI o.el o.n=N):
  eqT (.mk o.k o.el o.n (datO ms o) ks) (.mk p.k p.el p.n (datO ns p) ks')=true↔∀i,i<N→fld (wordV ms o.sg (o.at'+(i:Int))) 0 ((min (T-64*i) 64:Nat):Int)=fld (wordV ns p.sg (p.at'+(i:Int))) 0 ((min (T-64*i) 64:Nat):Int):=by
 obtain rfl:=kids_nil h (by rw [ptrO_lst hk (by omega)];rfl)
 obtain rfl:=kids_nil h' (by rw [ptrO_lst hk' (by omega)];rfl)
 have h1:datO ms o=trimL (bytesOf (datW ms o.sg o.at' (wordsI o.el o.n))) o.el o.n:=by unfold datO;rw [if_neg (by omega),if_pos ⟨hk,by omega⟩]
 have h2:datO ns p=trimL (bytesOf (datW ns p.sg p.at' (wordsI p.el p.n))) p.el p.n:=by unfold datO;rw [if_neg (by omega),if_pos ⟨hk',by omega⟩]
 rw [h1,h2,hk,hk',he,hn',eqT_dat,trim_iff (datW_wds hwm _ _ _) (datW_wds hwn _ _ _) he0 h6 hn hT hN]
 rw [he,hn'] at hi'
 constructor
 ·intro g i hiN
  rw [←(datW_at hi (by omega:(i:Int)<wordsI o.el o.n)).1,←(datW_at hi' (by omega:(i:Int)<wordsI o.el o.n)).1]
  exact g i hiN
 ·intro g i hiN
  rw [(datW_at hi (by omega:(i:Int)<wordsI o.el o.n)).1,(datW_at hi' (by omega:(i:Int)<wordsI o.el o.n)).1]
  exact g i hiN
end
end Go.Proofs.YtfaflahfjgnphaaGreatDoor
