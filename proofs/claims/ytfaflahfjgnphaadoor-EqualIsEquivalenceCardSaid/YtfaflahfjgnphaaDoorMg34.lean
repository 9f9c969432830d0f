/- The texts Eq, EqN, Cut, EqA, EqB (what is wanted of them), one after the other. -/
import Derived.Test.YtfaflahfjgnphaaDoorMg21
import Derived.Test.YtfaflahfjgnphaaDoorMg31
import Derived.OneCell
namespace Go.Proofs.YtfaflahfjgnphaaDoor
open Go.ChangeShapes Go.WideShapes Go.ChangeAt Go.RowKit
set_option linter.unusedVariables false
set_option linter.unusedSimpArgs false
set_option maxRecDepth 100000
def dataE (a b:List Int):Bool:=decide (∀i,i<max a.length b.length→zat a i=zat b i)
theorem zat_outE {l:List Int}{i:Nat}(h:¬i<l.length):zat l i=0:=by simp [zat,List.getD_eq_getElem?_getD,List.getElem?_eq_none (Nat.le_of_not_lt h)]
theorem dataE_iff {a b:List Int}:dataE a b=true↔∀i,zat a i=zat b i:=by
 unfold dataE
 rw [decide_eq_true_iff]
 constructor
 ·intro h i
  by_cases hi:i<max a.length b.length
  ·exact h i hi
  ·rw [zat_outE (by omega),zat_outE (by omega)]
 ·exact fun h i _=>h i
theorem dataE_comm (a b:List Int):dataE a b=dataE b a:=by
 rw [Bool.eq_iff_iff,dataE_iff,dataE_iff]
 exact⟨fun h i=>(h i).symm,fun h i=>(h i).symm⟩
theorem zat_zeros (a:List Int)(k:Nat)(i:Nat):zat (a++List.replicate k 0) i=zat a i:=by
 by_cases h:i<a.length
 ·exact zat_append_left _ _ _ h
 ·rw [zat_outE h]
  simp [zat,List.getD_eq_getElem?_getD,List.getElem?_append_right (Nat.le_of_not_lt h),List.getElem?_replicate]
  split<;>rfl
theorem dataE_zeros (a b:List Int)(k:Nat):dataE (a++List.replicate k 0) b=dataE a b:=by
 rw [Bool.eq_iff_iff,dataE_iff,dataE_iff]
 exact⟨fun h i=>by rw [←h i,zat_zeros],fun h i=>by rw [zat_zeros,h i]⟩
theorem dataE_self (a:List Int)(k:Nat):dataE a (a++List.replicate k 0)=true:=dataE_iff.2 fun i=>(zat_zeros a k i).symm
theorem dataE_more (a:List Int)(k:Nat)(z:Int):dataE ((a++List.replicate k 0)++[z]) a=(z==0):=by
 rw [Bool.eq_iff_iff,dataE_iff,beq_iff_eq]
 have hl:(a++List.replicate k 0).length=a.length+k:=by simp
 have hz:zat ((a++List.replicate k 0)++[z]) (a.length+k)=z:=by
  rw [←hl]
  simp [zat,List.getD_eq_getElem?_getD]
 constructor
 ·intro h
  rw [←hz,h,zat_outE (by omega)]
 ·rintro rfl i
  by_cases h:i<a.length+k
  ·rw [zat_append_left _ _ _ (by omega),zat_zeros]
  ·by_cases h2:i=a.length+k
   ·rw [h2,hz,zat_outE (by omega)]
   ·rw [zat_outE (by simp;omega),zat_outE (by omega)]
noncomputable def eqQ (x y:Nd) (e f:Int):Bool×Int:=if e≠0 then (false,e) else if f≠0 then (false,f) else (eqN x y,0)
noncomputable def eqM (ms ns:List (List Int)) (D X:Int):Bool×Int:=eqQ (msgV ms D X).1 (msgV ns D X).1 (msgV ms D X).2 (msgV ns D X).2
theorem eqQ_of {ms ns:List (List Int)}{D X:Int}{x y:Nd}{e f:Int}(h1:msgV ms D X=(x,e))(h2:msgV ns D X=(y,f)):eqM ms ns D X=eqQ x y e f:=by
 unfold eqM
 rw [h1,h2]
section
noncomputable def eqT (x y:Nd):Bool:=eqN (trimN x) (trimN y)
def kidN (ks:List Nd)(i:Nat):Nd:=ks.getD i nd0
open Classical in
noncomputable def rowE (ks ks':List Nd):Bool:=decide (∀i,i<max ks.length ks'.length→eqT (kidN ks i) (kidN ks' i)=true)
theorem trim_nd0:trimN nd0=nd0:=by simp [trimN,nd0,trimK]
theorem eqT_iff {x y:Nd}:eqT x y=true↔trimN x=trimN y:=eqN_iff
theorem eqT_nd0:eqT nd0 nd0=true:=eqN_yes rfl
theorem eqT_head {x y:Nd}(h:¬(x.k=y.k∧x.e=y.e∧x.n=y.n)):eqT x y=false:=eqN_no (fun he=>h ⟨by rw [←trimN_k x,he,trimN_k],by rw [←trimN_e x,he,trimN_e],by rw [←trimN_n x,he,trimN_n]⟩)
theorem kidN_out {ks:List Nd}{i:Nat}(h:ks.length≤i):kidN ks i=nd0:=by simp [kidN,List.getD_eq_getElem?_getD,List.getElem?_eq_none h]
theorem kidN_in {ks:List Nd}{i:Nat}(h:i<ks.length):kidN ks i=ks[i]:=by simp [kidN,List.getD_eq_getElem?_getD,h]
theorem rowE_iff {ks ks':List Nd}:rowE ks ks'=true↔∀i,eqT (kidN ks i) (kidN ks' i)=true:=by
 unfold rowE
 rw [decide_eq_true_iff]
 constructor
 ·intro h i
  by_cases hi:i<max ks.length ks'.length
  ·exact h i hi
  ·rw [kidN_out (by omega),kidN_out (by omega)];exact eqT_nd0
 ·exact fun h i _=>h i
theorem rowE_no {ks ks':List Nd}{i:Nat}(h:eqT (kidN ks i) (kidN ks' i)=false):rowE ks ks'=false:=by
 cases hr:rowE ks ks' with
 | false=>rfl
 | true=>rw [rowE_iff.1 hr i] at h;cases h
theorem take_zat (d:List Int)(i:Nat):zat (d.take (8*wordsT d)) i=zat d i:=by
 by_cases h:i<8*wordsT d
 ·exact zat_take _ _ _ h
 ·have h0:zat d i=0:=by
   by_cases hl:i<d.length
   ·by_cases hz:zat d i=0
    ·exact hz
    ·have:=wordsT_at hl hz;omega
   ·exact zat_out (by omega)
  rw [h0]
  exact zat_out (by rw [List.length_take];omega)
theorem take_words_iff {d d':List Int}(h8:d.length % 8=0)(h8':d'.length % 8=0):d.take (8*wordsT d)=d'.take (8*wordsT d')↔∀i,zat d i=zat d' i:=by
 constructor
 ·intro h i
  rw [←take_zat d i,h,take_zat]
 ·intro h
  have hw:∀a b:List Int,(∀i,zat a i=zat b i)→wordsT a≤wordsT b:=fun a b h=>by
   rw [wordsT_iff]
   intro t ht hz
   rw [h] at hz
   exact wordsT_at (Classical.byContradiction fun hc=>hz (zat_out (by omega))) hz
  have e:wordsT d=wordsT d':=Nat.le_antisymm (hw _ _ h) (hw _ _ fun i=>(h i).symm)
  have l1:=wordsT_le d h8
  have l2:=wordsT_le d' h8'
  apply ext_zat
  ·rw [List.length_take,List.length_take];omega
  ·intro i _
   rw [take_zat,take_zat]
   exact h i
theorem kAt_kid (ks:List Nd)(i:Nat):kAt ks i=(kidN ks i).k:=by
 unfold kAt kidN
 rw [List.getD_eq_getElem?_getD]
 cases ks[i]?<;>rfl
theorem null_nd0 {x:Nd}(hv:validN x=true)(h:x.k=0):x=nd0:=by
 obtain⟨k,e,n,d,ks⟩:=x
 simp only [Nd.k] at h
 subst h
 simp only [validN,Bool.and_eq_true] at hv
 have h2:=hv.2
 unfold headB at h2
 rw [if_pos rfl,decide_eq_true_iff] at h2
 obtain⟨h3,h4,h5,h6⟩:=h2
 subst h3 h4
 first
 | (subst h5 h6;rfl)
 | (rw [List.length_eq_zero_iff.1 h5,List.length_eq_zero_iff.1 h6];rfl)
theorem kid_valid {ks:List Nd}(hv:∀y∈ks,validN y=true)(i:Nat):validN (kidN ks i)=true:=by
 by_cases h:i<ks.length
 ·rw [kidN_in h];exact hv _ (List.getElem_mem h)
 ·rw [kidN_out (by omega)];decide
theorem take_kid {ks:List Nd}(hv:∀y∈ks,validN y=true)(i:Nat):kidN ((trimK ks).take (ptrsT ks)) i=trimN (kidN ks i):=by
 have hl:=ptrsT_le ks
 by_cases h:i<ptrsT ks
 ·have h1:i<((trimK ks).take (ptrsT ks)).length:=by rw [List.length_take,trimK_length];omega
  rw [kidN_in h1,kidN_in (show i<ks.length by omega),List.getElem_take,trimK_get]
 ·rw [kidN_out (by rw [List.length_take,trimK_length];omega)]
  have h0:kidN ks i=nd0:=by
   by_cases hi:i<ks.length
   ·refine null_nd0 (kid_valid hv i) (Classical.byContradiction fun hk=>?_)
    have:=ptrsT_at hi (by rw [kAt_kid];exact hk)
    omega
   ·exact kidN_out (by omega)
  rw [h0,trim_nd0]
theorem take_kids_iff {ks ks':List Nd}(hv:∀y∈ks,validN y=true)(hv':∀y∈ks',validN y=true):(trimK ks).take (ptrsT ks)=(trimK ks').take (ptrsT ks')↔rowE ks ks'=true:=by
 rw [rowE_iff]
 constructor
 ·intro h i
  rw [eqT_iff,←take_kid hv i,h,take_kid hv']
 ·intro h
  have hk:∀i,trimN (kidN ks i)=trimN (kidN ks' i):=fun i=>eqT_iff.1 (h i)
  have hw:∀a b:List Nd,(∀i,trimN (kidN a i)=trimN (kidN b i))→ptrsT a≤ptrsT b:=fun a b h=>by
   rw [ptrsT_iff]
   intro t ht hz
   rw [kAt_kid,←trimN_k,h t,trimN_k,←kAt_kid] at hz
   refine ptrsT_at (Classical.byContradiction fun hc=>hz ?_) hz
   rw [kAt_kid,kidN_out (by omega)]
   rfl
  have e:ptrsT ks=ptrsT ks':=Nat.le_antisymm (hw _ _ hk) (hw _ _ fun i=>(hk i).symm)
  have l1:=ptrsT_le ks
  have l2:=ptrsT_le ks'
  apply List.ext_getElem
  ·rw [List.length_take,List.length_take,trimK_length,trimK_length];omega
  ·intro i h1 h2
   rw [←kidN_in h1,←kidN_in h2,take_kid hv,take_kid hv']
   exact hk i
theorem byte0 (j:Nat):byteOf 0 j=0:=by unfold byteOf;simp
theorem bytesOf_at (l:List Int)(i:Nat):zat (bytesOf l) i=byteOf (zat l (i / 8)) (i % 8):=by
 by_cases h:i / 8<l.length
 ·have:=bytesOf_zat l (i / 8) (i % 8) h (by omega)
  rw [show 8*(i / 8)+i % 8=i by omega] at this
  exact this
 ·rw [zat_out (by rw [bytesOf_length];omega),zat_out (show l.length≤i / 8 by omega),byte0]
theorem word_at {l:List Int}(h:Wds l)(i:Nat):zat l i=leF (fun j=>zat (bytesOf l) (8*i+j)) 8:=by
 rw [leF_congr (y:=byteOf (zat l i)) 8 (fun j hj=>by rw [bytesOf_at,show (8*i+j) / 8=i by omega,show (8*i+j) % 8=j by omega]),leF_byteOf]
 have:=h.at i
 omega
theorem bytes_iff {a b:List Int}(ha:Wds a)(hb:Wds b):(∀i,zat (bytesOf a) i=zat (bytesOf b) i)↔∀i,zat a i=zat b i:=by
 constructor
 ·intro h i
  rw [word_at ha,word_at hb]
  exact leF_congr 8 (fun j _=>h _)
 ·intro h i
  rw [bytesOf_at,bytesOf_at,h]
theorem eqT_str {a b:List Int}{ks ks':List Nd}(ha:Wds a)(hb:Wds b)(hv:∀y∈ks,validN y=true)(hv':∀y∈ks',validN y=true):eqT (.mk 1 0 0 (bytesOf a) ks) (.mk 1 0 0 (bytesOf b) ks')=(dataE a b&&rowE ks ks'):=by
 rw [Bool.eq_iff_iff,eqT_iff,Bool.and_eq_true,dataE_iff,←bytes_iff ha hb,←take_words_iff (by rw [bytesOf_length];omega) (by rw [bytesOf_length];omega),←take_kids_iff hv hv']
 simp only [trimN,if_pos]
 constructor
 ·intro h
  injection h with _ _ _ h1 h2
  exact⟨h1,h2⟩
 ·rintro⟨h1,h2⟩
  rw [h1,h2]
theorem eqT_lst {e n:Int}{d:List Int}{ks ks':List Nd}(hl:ks.length=ks'.length):eqT (.mk 2 e n d ks) (.mk 2 e n d ks')=rowE ks ks':=by
 rw [Bool.eq_iff_iff,eqT_iff,rowE_iff]
 simp only [trimN,if_neg (show ¬((2:Int)=1) by decide)]
 have hg:∀(ks:List Nd) i,trimN (kidN ks i)=kidN (trimK ks) i:=fun ks i=>by
  by_cases h:i<ks.length
  ·rw [kidN_in h,kidN_in (by rw [trimK_length];exact h),trimK_get]
  ·rw [kidN_out (by omega),kidN_out (by rw [trimK_length];omega),trim_nd0]
 constructor
 ·intro h i
  injection h with _ _ _ _ h2
  rw [eqT_iff,hg,hg,h2]
 ·intro h
  have:trimK ks=trimK ks':=by
   apply List.ext_getElem (by rw [trimK_length,trimK_length,hl])
   intro i h1 h2
   rw [←kidN_in h1,←kidN_in h2,←hg,←hg]
   exact eqT_iff.1 (h i)
  rw [this]
theorem eqT_dat {e n:Int}{d d':List Int}:eqT (.mk 2 e n d []) (.mk 2 e n d' [])=true↔d=d':=by
 rw [eqT_iff]
 simp only [trimN,if_neg (show ¬((2:Int)=1) by decide),trimK]
 constructor
 ·intro h
  injection h
 ·intro h
  rw [h]
theorem mod_two {x y a b:Nat}(ha:0<a):x % (a*b)=y % (a*b)↔x % a=y % a∧x / a % b=y / a % b:=by
 rw [Nat.mod_mul,Nat.mod_mul]
 have h1:=Nat.mod_lt x ha
 have h2:=Nat.mod_lt y ha
 constructor
 ·intro h
  have h3:x % a=y % a:=by
   have h4:(x % a+a*(x / a % b)) % a=(y % a+a*(y / a % b)) % a:=by rw [h]
   rw [Nat.add_mul_mod_self_left,Nat.add_mul_mod_self_left,Nat.mod_mod,Nat.mod_mod] at h4
   exact h4
  refine⟨h3,?_⟩
  rw [h3] at h
  exact Nat.eq_of_mul_eq_mul_left ha (Nat.add_left_cancel h)
 ·rintro⟨h3,h4⟩
  rw [h3,h4]
theorem mod_bytes (x y:Nat):∀q,x % 2 ^ (8*q)=y % 2 ^ (8*q)↔∀j,j<q→x / 2 ^ (8*j) % 256=y / 2 ^ (8*j) % 256
 | 0=>by simp [Nat.mod_one]
 | q+1=>by
  have ih:=mod_bytes x y q
  have e:2 ^ (8*(q+1))=2 ^ (8*q)*256:=by rw [Nat.mul_add,Nat.pow_add]
  rw [e,mod_two (Nat.two_pow_pos _),ih]
  constructor
  ·rintro⟨h1,h2⟩ j hj
   by_cases h:j=q
   ·subst h;exact h2
   ·exact h1 j (by omega)
  ·intro h
   exact⟨fun j hj=>h j (by omega),h q (by omega)⟩
theorem mod_bits (x y u:Nat):x % 2 ^ u=y % 2 ^ u↔∀j,8*j<u→x / 2 ^ (8*j) % 256 % 2 ^ (min (u-8*j) 8)=y / 2 ^ (8*j) % 256 % 2 ^ (min (u-8*j) 8):=by
 have e:2 ^ u=2 ^ (8*(u / 8))*2 ^ (u % 8):=by rw [←Nat.pow_add];congr 1;omega
 have hd:(2:Nat) ^ (u % 8) ∣ 256:=by
  have:(256:Nat)=2 ^ 8:=rfl
  rw [this]
  exact Nat.pow_dvd_pow 2 (by omega)
 have hfull:∀z j,8*j+8≤u→z % 256 % 2 ^ (min (u-8*j) 8)=z % 256:=fun z j h=>by
  rw [show min (u-8*j) 8=8 by omega]
  exact Nat.mod_mod z 256
 have hlast:∀z,z % 256 % 2 ^ (min (u-8*(u / 8)) 8)=z % 2 ^ (u % 8):=fun z=>by
  rw [show min (u-8*(u / 8)) 8=u % 8 by omega]
  exact Nat.mod_mod_of_dvd z hd
 rw [e,mod_two (Nat.two_pow_pos _),mod_bytes]
 constructor
 ·rintro⟨h1,h2⟩ j hj
  by_cases h:8*j+8≤u
  ·rw [hfull _ _ h,hfull _ _ h]
   exact h1 j (by omega)
  ·obtain rfl:j=u / 8:=by omega
   rw [hlast,hlast]
   exact h2
 ·intro h
  refine⟨fun j hj=>?_,?_⟩
  ·have:=h j (by omega)
   rw [hfull _ _ (by omega),hfull _ _ (by omega)] at this
   exact this
  ·by_cases h0:u % 8=0
   ·rw [h0]
    simp [Nat.mod_one]
   ·have:=h (u / 8) (by omega)
    rw [hlast,hlast] at this
    exact this
theorem byteOf_nat (x j:Nat):byteOf (x:Int) j=((x / 2 ^ (8*j) % 256:Nat):Int):=by
 unfold byteOf
 rw [Nat.pow_mul]
 simp
theorem fld_bits {x y:Int}(hx:0≤x)(hy:0≤y)(u:Nat):fld x 0 u=fld y 0 u↔∀j,8*j<u→byteOf x j % 2 ^ (min (u-8*j) 8)=byteOf y j % 2 ^ (min (u-8*j) 8):=by
 obtain⟨a,rfl⟩:=Int.eq_ofNat_of_zero_le hx
 obtain⟨b,rfl⟩:=Int.eq_ofNat_of_zero_le hy
 have h0:∀a:Nat,fld (a:Int) 0 u=((a % 2 ^ u:Nat):Int):=fun a=>by unfold fld fldN;simp
 have hc:∀(z m:Nat),((z:Int)) % 2 ^ m=((z % 2 ^ m:Nat):Int):=fun z m=>by simp
 rw [h0,h0,Int.ofNat_inj,mod_bits]
 constructor
 ·intro h j hj
  rw [byteOf_nat,byteOf_nat,hc,hc,h j hj]
 ·intro h j hj
  have:=h j hj
  rw [byteOf_nat,byteOf_nat,hc,hc] at this
  exact Int.ofNat_inj.1 this
theorem trimAt_mod {l:List Int}(hl:Bts l){e n:Int}(he0:0≤e)(he:e<6)(hn:0≤n){T t:Nat}(hT:bitsI e*n=T)(ht:8*t<T):trimAt l e n t=zat l t % 2 ^ (min (T-8*t) 8):=by
 have hb:=hl.at t
 have hfull:(zat l t) % 2 ^ 8=zat l t:=by
  rw [show ((2:Int) ^ 8)=256 from rfl]
  omega
 unfold trimAt
 by_cases h:e=1∧n<8*(t:Int)+8
 ·rw [if_pos h]
  obtain⟨rfl,h2⟩:=h
  have hnT:n=T:=by rw [←hT];show n=1*n;omega
  unfold p2
  rw [show (n-8*(t:Int)).toNat=min (T-8*t) 8 by omega]
 ·rw [if_neg h]
  have h8:min (T-8*t) 8=8:=by
   rcases(by omega:e=0∨e=1∨e=2∨e=3∨e=4∨e=5) with h'|h'|h'|h'|h'|h'<;>subst h'
   ·rw [show bitsI 0=0 from rfl] at hT;omega
   ·rw [show bitsI 1=1 from rfl] at hT;omega
   ·rw [show bitsI 2=8 from rfl] at hT;omega
   ·rw [show bitsI 3=16 from rfl] at hT;omega
   ·rw [show bitsI 4=32 from rfl] at hT;omega
   ·rw [show bitsI 5=64 from rfl] at hT;omega
  rw [h8,hfull]
theorem trim_iff {a b:List Int}(ha:Wds a)(hb:Wds b){e n:Int}(he0:0≤e)(he:e<6)(hn:0≤n){T N:Nat}(hT:bitsI e*n=T)(hN:wordsI e n=N):
  trimL (bytesOf a) e n=trimL (bytesOf b) e n↔∀i,i<N→fld (zat a i) 0 ((min (T-64*i) 64:Nat):Int)=fld (zat b i) 0 ((min (T-64*i) 64:Nat):Int):=by
 unfold wordsI at hN
 rw [if_neg (by omega),hT] at hN
 have hB:(bytesI e n).toNat=(T+7) / 8:=by unfold bytesI;rw [hT];omega
 have h1:trimL (bytesOf a) e n=trimL (bytesOf b) e n↔∀t,8*t<T→zat (bytesOf a) t % 2 ^ (min (T-8*t) 8)=zat (bytesOf b) t % 2 ^ (min (T-8*t) 8):=by
  constructor
  ·intro h t ht
   have h2:zat (trimL (bytesOf a) e n) t=zat (trimL (bytesOf b) e n) t:=by rw [h]
   rw [trimL_zat _ _ _ _ (by omega),trimL_zat _ _ _ _ (by omega),trimAt_mod (bytesOf_bts a) he0 he hn hT ht,trimAt_mod (bytesOf_bts b) he0 he hn hT ht] at h2
   exact h2
  ·intro h
   apply ext_zat (by rw [trimL_length,trimL_length])
   intro t ht
   rw [trimL_length] at ht
   rw [trimL_zat _ _ _ _ ht,trimL_zat _ _ _ _ ht,trimAt_mod (bytesOf_bts a) he0 he hn hT (by omega),trimAt_mod (bytesOf_bts b) he0 he hn hT (by omega)]
   exact h t (by omega)
 rw [h1]
 constructor
 ·intro h i hi
  rw [fld_bits (ha.at i).1 (hb.at i).1]
  intro j hj
  have h2:=h (8*i+j) (by omega)
  rw [bytesOf_at,bytesOf_at,show (8*i+j) / 8=i by omega,show (8*i+j) % 8=j by omega,show min (T-8*(8*i+j)) 8=min (min (T-64*i) 64-8*j) 8 by omega] at h2
  exact h2
 ·intro h t ht
  have h2:=(fld_bits (ha.at (t / 8)).1 (hb.at (t / 8)).1 _).1 (h (t / 8) (by omega)) (t % 8) (by omega)
  rw [bytesOf_at,bytesOf_at,show min (T-8*t) 8=min (min (T-64*(t / 8)) 64-8*(t % 8)) 8 by omega]
  exact h2
end
def cutA (A:Option Addr)(l m:Nat):Option Addr:=if m=l then A else A.map (·.add l)
theorem ri_cut {w:World}{k:IntKind}{A:Option Addr}{zs:List Int}{i c:Nat}(h:Ri w k A zs)(hc:zs.length≤c):Ri w k (cutA A i c) (zs.drop i):=by
 unfold cutA
 by_cases hi:i<zs.length
 ·rw [if_neg (by omega)]
  obtain⟨b,off,rfl,-⟩:=h.at hi
  have h2:=h.drop (n:=i) rfl
  simp only [Option.map_some,add_plain]
  exact h2
 ·rw [List.drop_of_length_le (by omega)]
  exact Ri.nil _ _ _
theorem head64 (A:Option Addr)(n c m:Nat)(h:m≤c)(w:World):(Instr.sliceAt 31 (.slice A n c) none (some (.int .i64 m)) none).run Tryd.prog w=.ok (.slice (cutA A 0 c) m c) w:=by
 have hs:=run_slice_h (P:=Tryd.prog) w 31 A n c rfl .i64 (m:Int) (by omega) (by omega)
 rw [run_sliceAt_slice (P:=Tryd.prog) w _ _ _ _ _ rfl,hs]
 rw [show Tryd.prog.elem 31=32 from rfl]
 have hz:(sizeOf 32).run Tryd.prog w=.ok 1 w:=rfl
 rw [hz]
 simp [Result.andThen,sliced,cutA]
theorem ri_head {w:World}{k:IntKind}{A:Option Addr}{zs:List Int}{c:Nat}(m:Nat)(h:Ri w k A zs)(hc:zs.length≤c):Ri w k (cutA A 0 c) (zs.take m):=by
 have h2:=(ri_cut (i:=0) h hc).take m
 rw [List.drop_zero] at h2
 exact h2
theorem head64i (A:Option Addr)(n c m:Nat)(x:Int)(hx:x=(m:Int))(h:m≤c):∀w,(Instr.sliceAt 31 (.slice A n c) none (some (.int .i64 x)) none).run Tryd.prog w=.ok (.slice (cutA A 0 c) m c) w:=by
 subst hx
 exact fun w=>head64 A n c m h w
theorem tailW (A:Option Addr)(n c i:Nat)(h:i≤n)(w:World):(Instr.sliceAt 31 (.slice A n c) (some (.int .i64 i)) none none).run Tryd.prog w=.ok (.slice (cutA A i c) (n-i) (c-i)) w:=by
 have hs:=run_slice_l (P:=Tryd.prog) w 31 A n c rfl .i64 (i:Int) (by omega) (by omega)
 rw [run_sliceAt_slice (P:=Tryd.prog) w _ _ _ _ _ rfl,hs]
 rw [show Tryd.prog.elem 31=32 from rfl]
 have hz:(sizeOf 32).run Tryd.prog w=.ok 1 w:=rfl
 rw [hz]
 simp [Result.andThen,sliced,cutA]
theorem AllZeroLit (z:Int)(v:Bool)(w:World)(hv:(z != 0)=v):Calls Tryd.prog 30 #[.int .u64 z] w fun r w'=>r=.returned (.bool v)∧w=w':=by
 go_enter Tryd.func30,Tryd.ntmps30
 go_wp2
 go_ret
 exact⟨rfl,rfl⟩
def allZ (a:List Int):Bool:=a.all (·==0)
theorem allZ_iff {a:List Int}:allZ a=true↔∀i,zat a i=0:=by
 unfold allZ
 rw [List.all_eq_true]
 constructor
 ·intro h i
  by_cases hi:i<a.length
  ·simpa using h _ (zat_mem hi)
  ·exact zat_out (by omega)
 ·intro h x hx
  obtain⟨i,hi,rfl⟩:=List.getElem_of_mem hx
  have:=h i
  rw [zat,List.getD_eq_getElem?_getD,List.getElem?_eq_getElem hi] at this
  simpa using this
theorem dataE_parts (a b:List Int)(n:Nat)(hn:n=min a.length b.length):dataE a b=(sameB (a.take n) (b.take n)&&allZ (a.drop n)&&allZ (b.drop n)):=by
 have hl:∀l:List Int,n≤l.length→(l.take n).length=n:=fun l h=>by rw [List.length_take];omega
 rw [Bool.eq_iff_iff,dataE_iff,Bool.and_eq_true,Bool.and_eq_true,allZ_iff,allZ_iff]
 unfold sameB
 rw [decide_eq_true_iff]
 constructor
 ·intro h
  refine⟨⟨?_,fun i=>?_⟩,fun i=>?_⟩
  ·apply ext_zat
   ·rw [hl a (by omega),hl b (by omega)]
   ·intro i hi
    rw [hl a (by omega)] at hi
    rw [zat_take _ _ _ hi,zat_take _ _ _ hi,h]
  ·rw [zat_drop]
   by_cases h1:n+i<a.length
   ·rw [h,zat_out (by omega)]
   ·exact zat_out (by omega)
  ·rw [zat_drop]
   by_cases h1:n+i<b.length
   ·rw [←h,zat_out (by omega)]
   ·exact zat_out (by omega)
 ·rintro⟨⟨h1,h2⟩,h3⟩ i
  by_cases hi:i<n
  ·rw [←zat_take a n i hi,h1,zat_take _ _ _ hi]
  ·have e:i=n+(i-n):=by omega
   rw [e,←zat_drop,←zat_drop,h2,h3]
theorem IndexZ_any (A:Option Addr)(c:Nat)(a:List Int)(w:World)(ha:Ri w .u64 A a)(hl:a.length≤1099511627776):
  Calls Tryd.prog 46 #[.slice A a.length c,.func (.func 30) #[] #[]] w fun r w'=>(∃v:Int,r=.returned (.int .i64 v)∧-1≤v∧(0≤v↔allZ a=false))∧w=w':=by
 have HA:=Lib.hid ha
 clear ha
 have HN:Hid (∀j,zat a j≠0→allZ a=false):=Lib.hid (fun j h=>by
  cases hz:allZ a with
  | false=>rfl
  | true=>exact absurd (allZ_iff.1 hz j) h)
 have HY:Hid ((∀j,j<a.length→zat a j=0)→allZ a=true):=Lib.hid (fun h=>allZ_iff.2 fun i=>by
  by_cases hi:i<a.length
  ·exact h i hi
  ·exact zat_out (by omega))
 go_enter Tryd.func46,Tryd.ntmps46
 go_wp2
 go_loop [8] (fun i=>∃j:Nat,j≤a.length∧i=.int .i64 j∧(∀k,k<j→zat a k=0)) (fun i=>a.length-(intOf i).toNat)
 case atStart=>exact⟨0,by omega,rfl,fun k hk=>absurd hk (Nat.not_lt_zero _)⟩
 case round=>
  obtain⟨j,hj,rfl,hal⟩:=hrel
  have HAL:=Lib.hid hal
  clear hal
  by_cases hlt2:j<a.length
  ·have hj1:(j:Int)<(a.length:Int):=by omega
   obtain⟨b,off,rfl,hc⟩:=HA.out.at hlt2
   have hcj:=hc j hlt2
   have HNJ:=Lib.hid (HN.out j)
   clear hc
   by_cases hz:zat a j=0
   ·have HZ:Hid (∀k,k<j+1→zat a k=0):=Lib.hid (fun k hk=>by
     by_cases e:k=j
     ·subst e;exact hz
     ·exact HAL.out k (by omega))
    rw [hz] at hcj
    clear hz
    go_wp2_with fail
    refine(AllZeroLit 0 false _ rfl).mono ?_
    rintro r w2 ⟨rfl,rfl⟩
    go_wp2
    go_round
    case rel=>exact⟨j+1,by omega,by go_num,HZ.out⟩
    case measure=>simp [intOf];omega
   ·have HF:=Lib.hid (HNJ.out hz)
    generalize zat a j=z at *
    go_wp2_with fail
    refine(AllZeroLit z true _ (by simp [hz])).mono ?_
    rintro r w2 ⟨rfl,rfl⟩
    clear hz
    go_wp2
    go_ret
    exact⟨⟨(j:Int),rfl,by omega,⟨fun _=>HF.out,fun _=>by omega⟩⟩,rfl⟩
  ·obtain rfl:j=a.length:=by omega
   have HAA:=Lib.hid (HY.out HAL.out)
   go_wp2
   go_ret
   exact⟨⟨-1,rfl,by omega,⟨fun h=>by omega,fun h=>by rw [HAA.out] at h;cases h⟩⟩,rfl⟩
theorem ContainsZ_any (A:Option Addr)(c:Nat)(a:List Int)(w:World)(ha:Ri w .u64 A a)(hl:a.length≤1099511627776):
  Calls Tryd.prog 29 #[.slice A a.length c,.func (.func 30) #[] #[]] w fun r w'=>r=.returned (.bool (!allZ a))∧w=w':=by
 have HI:=Lib.hid (IndexZ_any A c a w ha hl)
 clear ha
 go_enter Tryd.func29,Tryd.ntmps29
 go_wp2_with fail
 refine HI.out.mono ?_
 rintro r w1 ⟨⟨v,rfl,hv1,hv2⟩,rfl⟩
 have HV:=Lib.hid hv2
 clear hv2
 by_cases h0:0≤v
 ·have HA:=Lib.hid (HV.out.1 h0)
  go_wp2
  go_ret
  exact⟨by rw [HA.out];first|rfl|(congr 2;simp;omega),rfl⟩
 ·have HA:Hid (allZ a=true):=Lib.hid (by
   cases hx:allZ a
   ·exact absurd (HV.out.2 hx) h0
   ·rfl)
  go_wp2
  go_ret
  exact⟨by rw [HA.out];first|rfl|(congr 2;simp;omega),rfl⟩
theorem AllZero_any (A:Option Addr)(c n:Nat)(a:List Int)(v:Bool)(w:World)(hn:a.length=n)(ha:Ri w .u64 A a)(hl:n≤1099511627776)(hv:allZ a=v):
  Calls Tryd.prog 16 #[.slice A n c] w fun r w'=>r=.returned (.bool v)∧w=w':=by
 subst hn
 have HC:=Lib.hid (ContainsZ_any A c a w ha hl)
 rw [hv] at HC
 clear ha hv
 go_enter Tryd.func16,Tryd.ntmps16
 go_wp2_with fail
 refine HC.out.mono ?_
 rintro r w1 ⟨rfl,rfl⟩
 cases v <;>
 (go_wp2
  go_ret
  exact⟨rfl,rfl⟩)
set_option maxHeartbeats 2000000 in
theorem SlicesEqual_any (A B:Option Addr)(c d n m:Nat)(a b:List Int)(v:Bool)(w:World)(hna:a.length=n)(hnb:b.length=m)(ha:Ri w .u64 A a)(hb:Ri w .u64 B b)(hm:n≤9223372036854775807)(hm2:m≤9223372036854775807)(hv:sameB a b=v):
  Calls Tryd.prog 15 #[.slice A n c,.slice B m d] w fun e w'=>e=.returned (.bool v)∧∃m,w'=w.drewN m:=by
 subst hna hnb hv
 have Ha:=Lib.hid ha
 have Hb:=Lib.hid hb
 clear ha hb
 by_cases hl:a.length=b.length
 ·have HL:=Lib.hid hl
  have hlen:((a.length:Int) != (b.length:Int))=false:=by simp [hl]
  clear hl
  go_enter Tryd.func15,Tryd.ntmps15
  go_wp2
  go_loopw [13] (fun i wr=>∃k:Nat,k≤a.length∧i=.int .i64 k∧(∀j,j<k→zat a j=zat b j)∧∃m,wr=w.drewN m) (fun i _=>a.length-(intOf i).toNat)
  case atStart=>exact⟨0,by omega,rfl,by intro j hj;omega,0,rfl⟩
  case round=>
   obtain⟨k,hk,rfl,hsame,m,rfl⟩:=hrel
   have HS:=Lib.hid hsame
   clear hsame
   by_cases hlt:k<a.length
   ·obtain⟨g,off,rfl,hc1⟩:=Ha.out.at hlt
    have hc1k:=hc1 k hlt
    have hltb:k<b.length:=by rw [←HL.out];exact hlt
    obtain⟨g',off',rfl,hc2⟩:=Hb.out.at hltb
    have hc2k:=hc2 k hltb
    clear hc1 hc2
    have hi1:(k:Int)<(a.length:Int):=by omega
    have hi2:(k:Int)<(b.length:Int):=by omega
    by_cases hz:zat a k=zat b k
    ·have hz1:(zat a k != zat b k)=false:=by simp [hz]
     have HZ:=Lib.hid hz
     clear hz
     go_wp2
     go_quiet (fail)
     go_wp2
     go_roundw
     case rel=>exact⟨k+1,by omega,by go_num,fun j hj=>by
      by_cases e:j=k
      ·subst e;exact HZ.out
      ·exact HS.out j (by omega),_,rfl⟩
     case measure=>simp [intOf];omega
    ·have hz1:(zat a k != zat b k)=true:=by simp [hz]
     have HF:Hid (sameB a b=false):=Lib.hid (by unfold sameB;simp;intro h;exact hz (by rw [h]))
     clear hz
     go_wp2
     go_quiet (fail)
     go_wp2
     go_ret
     exact⟨by rw [HF.out];rfl,_,World.drewN_drewN _ _ _⟩
   ·obtain rfl:k=a.length:=by omega
    have HT:Hid (sameB a b=true):=Lib.hid (by unfold sameB;rw [decide_eq_true_iff];exact ext_zat HL.out HS.out)
    go_wp2
    go_ret
    exact⟨by rw [HT.out];rfl,_,rfl⟩
 ·have hlen:((a.length:Int) != (b.length:Int))=true:=by simp;omega
  have HF:Hid (sameB a b=false):=Lib.hid (by unfold sameB;simp;intro h;exact hl (by rw [h]))
  clear hl
  go_enter Tryd.func15,Tryd.ntmps15
  go_wp2
  go_ret
  exact⟨by rw [HF.out];rfl,0,rfl⟩
section
theorem und {w wc:World}(h:Below w.drew.heap.size w.drew wc):Below w.heap.size w wc:=⟨h.os,h.tape,h.output,h.size,h.block⟩
attribute [local simp] AllK KnowsV look Is
attribute [local irreducible] cutA allZ sameB
set_option maxHeartbeats 4000000 in
theorem EData_core (A:Option Addr)(c:Nat)(B:Option Addr)(c2:Nat)(a b:List Int)(p q n k l:Nat)(w:World)(ha:Ri w .u64 A a)(hb:Ri w .u64 B b)(hp:a.length=p)(hq:b.length=q)(hn:n=min p q)(hk:p-n=k)(hl:q-n=l)(la:p≤1000000)(lb:q≤1000000)(hac:p≤c)(hbc:q≤c2)(hcm:c≤9223372036854775807)(hcm2:c2≤9223372036854775807):
    Calls Tryd.prog 9 #[.slice A p c,.slice B q c2] w fun r w'=>r=.returned (.bool (dataE a b))∧Below w.heap.size w w':=by
  have hP:=dataE_parts a b n (by omega)
  have h1:=head64i A p c n (n:Int) rfl (by omega)
  have h2:=head64i B q c2 n (n:Int) rfl (by omega)
  have h3:=tailW A p c n (by omega)
  have h4:=tailW B q c2 n (by omega)
  rw [hk] at h3
  rw [hl] at h4
  obtain⟨v1,hv1⟩:∃v,sameB (a.take n) (b.take n)=v:=⟨_,rfl⟩
  obtain⟨v2,hv2⟩:∃v,allZ (a.drop n)=v:=⟨_,rfl⟩
  obtain⟨v3,hv3⟩:∃v,allZ (b.drop n)=v:=⟨_,rfl⟩
  have HEQ:=Lib.hid (fun (w2:World) (ha:Ri w2 .u64 A a) (hb:Ri w2 .u64 B b)=>SlicesEqual_any (cutA A 0 c) (cutA B 0 c2) c c2 n n (a.take n) (b.take n) v1 w2 (by rw [List.length_take];omega) (by rw [List.length_take];omega) (ri_head n ha (by omega)) (ri_head n hb (by omega)) (by omega) (by omega) hv1)
  have HZA:=Lib.hid (fun (w2:World) (ha:Ri w2 .u64 A a)=>AllZero_any (cutA A n c) (c-n) k (a.drop n) v2 w2 (by rw [List.length_drop];omega) (ri_cut ha (by omega)) (by omega) hv2)
  have HZB:=Lib.hid (fun (w2:World) (hb:Ri w2 .u64 B b)=>AllZero_any (cutA B n c2) (c2-n) l (b.drop n) v3 w2 (by rw [List.length_drop];omega) (ri_cut hb (by omega)) (by omega) hv3)
  rw [hv1,hv2,hv3] at hP
  have HP:=Lib.hid hP
  have HA:=Lib.hid ha
  have HB:=Lib.hid hb
  clear hP hv1 hv2 hv3 ha hb hp hq
  have HL:Hid (q<p→n=q):=Lib.hid (fun h=>by omega)
  have HG:Hid (¬q<p→n=p):=Lib.hid (fun h=>by omega)
  have hc1:n≤c:=by omega
  have hc2:n≤c2:=by omega
  clear hn hk hl
  rcases v1 with _|_
  rotate_left
  rcases v2 with _|_
  rotate_left
  rcases v3 with _|_
  all_goals by_cases hqp:q<p
  all_goals
    first
    | (have e:=HL.out hqp;subst e)
    | (have e:=HG.out hqp;subst e)
    clear HL HG
    go_enter Tryd.func9,Tryd.ntmps9
    go_wp2
    clear hqp
    rename_i KK hKK
    refine wp_region_chain (by kernel_rfl) (by kernel_rfl) ?_
    refine chain_val (u:=?_) [0] rfl (by kernel_rfl) trivial (fun ρ wc hbc hcn hq=>?_) ?_;rotate_left
    · obtain⟨hcn,hfn⟩:=hcn
      simp at hq
      go_simp
      rfl
    refine chain_val (u:=?_) [5] rfl (by kernel_rfl) trivial (fun ρ wc hbc hcn hq=>?_) ?_;rotate_left
    · obtain⟨hcn,hfn⟩:=hcn
      simp at hq
      go_simp
      rfl
    refine chain_val (u:=.slice (cutA A 0 c) n c) [11,12] rfl (by kernel_rfl) trivial (fun ρ wc hbc hcn hq=>?_) ?_
    · obtain⟨hcn,hfn⟩:=hcn
      simp at hq
      have hz:=h1 wc
      simp only [execOp,hq,Option.map_some,Option.map_none]
      rw [Sem.run_bind,hz]
      rfl
    refine chain_val (u:=?_) [1] rfl (by kernel_rfl) trivial (fun ρ wc hbc hcn hq=>?_) ?_;rotate_left
    · obtain⟨hcn,hfn⟩:=hcn
      simp at hq
      go_simp
      rfl
    refine chain_val (u:=?_) [5] rfl (by kernel_rfl) trivial (fun ρ wc hbc hcn hq=>?_) ?_;rotate_left
    · obtain⟨hcn,hfn⟩:=hcn
      simp at hq
      go_simp
      rfl
    refine chain_val (u:=.slice (cutA B 0 c2) n c2) [14,15] rfl (by kernel_rfl) trivial (fun ρ wc hbc hcn hq=>?_) ?_
    · obtain⟨hcn,hfn⟩:=hcn
      simp at hq
      have hz:=h2 wc
      simp only [execOp,hq,Option.map_some,Option.map_none]
      rw [Sem.run_bind,hz]
      rfl
    refine chain_call (T:=Is ?_) 15 [13,16] rfl (by kernel_rfl) trivial (stable_is _) (fun ρ wc hbc hcn hq=>?_) ?_;rotate_left
    · obtain⟨hcn,hfn⟩:=hcn
      simp at hq
      refine⟨_,by go_simp;rfl,?_⟩
      refine(HEQ.out _ (HA.out.below (und hbc) (Nat.le_refl _)) (HB.out.below (und hbc) (Nat.le_refl _))).mono ?_
      rintro e w' ⟨rfl,m,rfl⟩
      refine⟨_,rfl,?_,bel_drewN (Below.refl _ _) m⟩
      unfold Is
      rfl
    refine chain_val (u:=?_) [17] rfl (by kernel_rfl) trivial (fun ρ wc hbc hcn hq=>?_) ?_;rotate_left
    · obtain⟨hcn,hfn⟩:=hcn
      simp at hq
      go_simp
      rfl
    first
    | refine chain_skip (s:=18) (c:=false) rfl rfl (by decide +kernel) rfl rfl (fun w x hx=>by simpa using hx) ?_
    | refine chain_skipU (s:=18) rfl rfl (by decide +kernel) rfl (fun w x hx=>by simpa using hx) ?_
    | (refine chain_val (u:=?_) [0] rfl (by kernel_rfl) ⟨18,by decide +kernel,rfl,fun w x hx=>by simpa using hx⟩ (fun ρ wc hbc hcn hq=>?_) ?_;rotate_left
       · obtain⟨hcn,hfn⟩:=hcn
         simp at hq
         go_simp
         rfl)
    first
    | refine chain_skip (s:=18) (c:=false) rfl rfl (by decide +kernel) rfl rfl (fun w x hx=>by simpa using hx) ?_
    | refine chain_skipU (s:=18) rfl rfl (by decide +kernel) rfl (fun w x hx=>by simpa using hx) ?_
    | (refine chain_val (u:=?_) [5] rfl (by kernel_rfl) ⟨18,by decide +kernel,rfl,fun w x hx=>by simpa using hx⟩ (fun ρ wc hbc hcn hq=>?_) ?_;rotate_left
       · obtain⟨hcn,hfn⟩:=hcn
         simp at hq
         go_simp
         rfl)
    first
    | refine chain_skip (s:=18) (c:=false) rfl rfl (by decide +kernel) rfl rfl (fun w x hx=>by simpa using hx) ?_
    | refine chain_skipU (s:=18) rfl rfl (by decide +kernel) rfl (fun w x hx=>by simpa using hx) ?_
    | (refine chain_val (u:=.slice (cutA A n c) k (c-n)) [19,20] rfl (by kernel_rfl) ⟨18,by decide +kernel,rfl,fun w x hx=>by simpa using hx⟩ (fun ρ wc hbc hcn hq=>?_) ?_
       · obtain⟨hcn,hfn⟩:=hcn
         simp at hq
         have hz:=h3 wc
         simp only [execOp,hq,Option.map_some,Option.map_none]
         rw [Sem.run_bind,hz]
         rfl)
    first
    | refine chain_skip (s:=18) (c:=false) rfl rfl (by decide +kernel) rfl rfl (fun w x hx=>by simpa using hx) ?_
    | refine chain_skipU (s:=18) rfl rfl (by decide +kernel) rfl (fun w x hx=>by simpa using hx) ?_
    | (refine chain_call (T:=Is ?_) 16 [21] rfl (by kernel_rfl) ⟨18,by decide +kernel,rfl,fun w x hx=>by simpa using hx⟩ (stable_is _) (fun ρ wc hbc hcn hq=>?_) ?_;rotate_left
       · obtain⟨hcn,hfn⟩:=hcn
         simp at hq
         refine⟨_,by go_simp;rfl,?_⟩
         refine(HZA.out _ (HA.out.below (und hbc) (Nat.le_refl _))).mono ?_
         rintro e w' ⟨rfl,rfl⟩
         refine⟨_,rfl,?_,Below.refl _ _⟩
         unfold Is
         rfl)
    refine chain_val (u:=?_) [18,22] rfl (by kernel_rfl) trivial (fun ρ wc hbc hcn hq=>?_) ?_;rotate_left
    · obtain⟨hcn,hfn⟩:=hcn
      simp at hq
      go_simp
      rfl
    refine chain_val (u:=?_) [23] rfl (by kernel_rfl) trivial (fun ρ wc hbc hcn hq=>?_) ?_;rotate_left
    · obtain⟨hcn,hfn⟩:=hcn
      simp at hq
      go_simp
      rfl
    first
    | refine chain_skip (s:=24) (c:=false) rfl rfl (by decide +kernel) rfl rfl (fun w x hx=>by simpa using hx) ?_
    | refine chain_skipU (s:=24) rfl rfl (by decide +kernel) rfl (fun w x hx=>by simpa using hx) ?_
    | (refine chain_val (u:=?_) [1] rfl (by kernel_rfl) ⟨24,by decide +kernel,rfl,fun w x hx=>by simpa using hx⟩ (fun ρ wc hbc hcn hq=>?_) ?_;rotate_left
       · obtain⟨hcn,hfn⟩:=hcn
         simp at hq
         go_simp
         rfl)
    first
    | refine chain_skip (s:=24) (c:=false) rfl rfl (by decide +kernel) rfl rfl (fun w x hx=>by simpa using hx) ?_
    | refine chain_skipU (s:=24) rfl rfl (by decide +kernel) rfl (fun w x hx=>by simpa using hx) ?_
    | (refine chain_val (u:=?_) [5] rfl (by kernel_rfl) ⟨24,by decide +kernel,rfl,fun w x hx=>by simpa using hx⟩ (fun ρ wc hbc hcn hq=>?_) ?_;rotate_left
       · obtain⟨hcn,hfn⟩:=hcn
         simp at hq
         go_simp
         rfl)
    first
    | refine chain_skip (s:=24) (c:=false) rfl rfl (by decide +kernel) rfl rfl (fun w x hx=>by simpa using hx) ?_
    | refine chain_skipU (s:=24) rfl rfl (by decide +kernel) rfl (fun w x hx=>by simpa using hx) ?_
    | (refine chain_val (u:=.slice (cutA B n c2) l (c2-n)) [25,26] rfl (by kernel_rfl) ⟨24,by decide +kernel,rfl,fun w x hx=>by simpa using hx⟩ (fun ρ wc hbc hcn hq=>?_) ?_
       · obtain⟨hcn,hfn⟩:=hcn
         simp at hq
         have hz:=h4 wc
         simp only [execOp,hq,Option.map_some,Option.map_none]
         rw [Sem.run_bind,hz]
         rfl)
    first
    | refine chain_skip (s:=24) (c:=false) rfl rfl (by decide +kernel) rfl rfl (fun w x hx=>by simpa using hx) ?_
    | refine chain_skipU (s:=24) rfl rfl (by decide +kernel) rfl (fun w x hx=>by simpa using hx) ?_
    | (refine chain_call (T:=Is ?_) 16 [27] rfl (by kernel_rfl) ⟨24,by decide +kernel,rfl,fun w x hx=>by simpa using hx⟩ (stable_is _) (fun ρ wc hbc hcn hq=>?_) ?_;rotate_left
       · obtain⟨hcn,hfn⟩:=hcn
         simp at hq
         refine⟨_,by go_simp;rfl,?_⟩
         refine(HZB.out _ (HB.out.below (und hbc) (Nat.le_refl _))).mono ?_
         rintro e w' ⟨rfl,rfl⟩
         refine⟨_,rfl,?_,Below.refl _ _⟩
         unfold Is
         rfl)
    refine chain_val (u:=?_) [24,28] rfl (by kernel_rfl) trivial (fun ρ wc hbc hcn hq=>?_) ?_;rotate_left
    · obtain⟨hcn,hfn⟩:=hcn
      simp at hq
      go_simp
      rfl
    refine chain_val (u:=?_) [29] rfl (by kernel_rfl) trivial (fun ρ wc hbc hcn hq=>?_) ?_;rotate_left
    · obtain⟨hcn,hfn⟩:=hcn
      simp at hq
      go_simp
      rfl
    refine chain_end_lit 30 rfl (fun ff w5 hb5 hk=>?_)
    have HB6:=Lib.hid (und hb5)
    simp [AllN] at hk
    simp only [frameL,hk]
    refine hKK _ _ ?_
    clear hk hb5
    go_wp2
    go_ret
    exact⟨by rw [HP.out];rfl,HB6.out⟩
theorem EDataB_any (A:Option Addr)(c:Nat)(B:Option Addr)(c2:Nat)(a b:List Int)(w:World)(ha:Ri w .u64 A a)(hb:Ri w .u64 B b)(la:a.length≤1000000)(lb:b.length≤1000000)(hac:a.length≤c)(hbc:b.length≤c2)(hcm:c≤maxLen)(hcm2:c2≤maxLen):
  Calls Tryd.prog 9 #[.slice A a.length c,.slice B b.length c2] w fun r w'=>r=.returned (.bool (dataE a b))∧Below w.heap.size w w':=
 EData_core A c B c2 a b a.length b.length _ _ _ w ha hb rfl rfl rfl rfl rfl la lb hac hbc hcm hcm2
end
end Go.Proofs.YtfaflahfjgnphaaDoor
