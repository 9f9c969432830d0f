/- The texts Can, Can3, Write (what is wanted of them), one after the other. -/
import Derived.Test.YtbpmeppdjicmhaaGreatDoorMg9
import Derived.Test.YtbpmeppdjicmhaaGreatDoorMg10
namespace Go.Proofs.YtbpmeppdjicmhaaGreatDoor
open Go.ChangeShapes Go.WideShapes Go.ChangeAt Go.RowKit
set_option linter.unusedVariables false
set_option linter.unusedSimpArgs false
set_option maxRecDepth 100000
def canOf (k e n:Int)(d:List Int)(ks:List Nd):Int:=
 if k=0 then 0
 else if k=1 then ((d.length / 8+ks.length:Nat):Int)
 else if e=7 then 1+n*((uniD ks ks.length+uniP ks ks.length:Nat):Int)
 else wordsI e n
def canO (x:Nd):Int:=canOf x.k x.e x.n x.d x.ks
mutual
def canN:Nd→Int
 | .mk k e n d ks=>canOf k e n d ks+if k=2∧e=7 then canG ks else canK ks
def canK:List Nd→Int
 | []=>0
 | x::xs=>canN x+canK xs
def canG:List Nd→Int
 | []=>0
 | .mk _ _ _ _ ks::xs=>canK ks+canG xs
end
theorem canK_append (a b:List Nd):canK (a++b)=canK a+canK b:=by
 induction a with
 | nil=>simp [canK]
 | cons x xs ih=>simp only [List.cons_append,canK,ih];omega
theorem canG_kk (l:List Nd):canG l=canK (kk l):=by
 induction l with
 | nil=>simp [canG,kk,canK]
 | cons x xs ih=>
  obtain⟨k,e,n,d,ks⟩:=x
  have h:kk (.mk k e n d ks::xs)=ks++kk xs:=by simp [kk,Nd.ks]
  rw [h,canK_append]
  simp only [canG,ih]
theorem canN_eq (x:Nd):canN x=canO x+canK (targN x):=by
 obtain⟨k,e,n,d,ks⟩:=x
 simp only [canN,targN,canO,Nd.k,Nd.e,Nd.n,Nd.d,Nd.ks]
 by_cases h:k=2∧e=7
 ·rw [if_pos h,if_pos h,canG_kk]
 ·rw [if_neg h,if_neg h]
theorem canK_take (l:List Nd)(j:Nat)(h:j<l.length):canK (l.take (j+1))=canK (l.take j)+canN l[j]:=by
 rw [List.take_succ_eq_append_getElem h,canK_append]
 simp [canK]
theorem valid_k {x:Nd}(h:validN x=true):x.k=0∨x.k=1∨x.k=2:=by
 obtain⟨k,e,n,d,ks⟩:=x
 have h2:headB k e n d ks=true:=by
  simp only [validN,Bool.and_eq_true] at h
  exact h.2
 unfold headB at h2
 show k=0∨k=1∨k=2
 split at h2
 ·exact .inl (by assumption)
 ·split at h2
  ·exact .inr (.inl (by assumption))
  ·split at h2
   ·exact .inr (.inr (by assumption))
   ·cases h2
theorem valid_head {k e n:Int}{d:List Int}{ks:List Nd}(h:validN (.mk k e n d ks)=true):
  (k=0∧d.length=0∧ks.length=0)∨(k=1∧d.length % 8=0∧d.length≤524280∧ks.length≤65535)∨(k=2∧0≤n∧n≤536870911∧0≤e∧e≤7∧(6≤e→d.length=0∧(ks.length:Int)=n)∧(e<6→ks.length=0∧(d.length:Int)=bytesI e n)):=by
 simp only [validN,Bool.and_eq_true] at h
 have h2:=h.2
 unfold headB at h2
 by_cases h0:k=0
 ·rw [if_pos h0,decide_eq_true_iff] at h2
  exact .inl ⟨h0,h2.2.2⟩
 rw [if_neg h0] at h2
 by_cases h1:k=1
 ·rw [if_pos h1,decide_eq_true_iff] at h2
  exact .inr (.inl ⟨h1,h2.2.2⟩)
 rw [if_neg h1] at h2
 by_cases h3:k=2
 ·rw [if_pos h3,decide_eq_true_iff] at h2
  exact .inr (.inr ⟨h3,h2.1,h2.2.1,h2.2.2.1,h2.2.2.2.1,h2.2.2.2.2.1,fun h=>⟨(h2.2.2.2.2.2 h).1,(h2.2.2.2.2.2 h).2.1⟩⟩)
 ·rw [if_neg h3] at h2
  cases h2
theorem valid_mem {k e n:Int}{d:List Int}{ks:List Nd}(h:validN (.mk k e n d ks)=true){y:Nd}(hy:y∈ks):validN y=true∧¬(k=2∧e=7∧y.k≠1):=by
 simp only [validN,Bool.and_eq_true] at h
 exact validK_mem h.1 hy
theorem valid_elem {n:Int}{d:List Int}{ks:List Nd}(h:validN (.mk 2 7 n d ks)=true){y:Nd}(hy:y∈ks):y.k=1∧y.d.length / 8≤65535∧y.ks.length≤65535:=by
 obtain⟨h1,h2⟩:=valid_mem h hy
 have hk:y.k=1:=Classical.byContradiction fun h3=>h2 ⟨rfl,rfl,h3⟩
 obtain⟨k,e,n',d',ks'⟩:=y
 simp only [Nd.k] at hk
 rcases valid_head h1 with h3|h3|h3
 ·omega
 ·exact⟨hk,by show d'.length / 8≤65535;omega,h3.2.2.2⟩
 ·omega
theorem uni_bd {n:Int}{d:List Int}{ks:List Nd}(h:validN (.mk 2 7 n d ks)=true):uniD ks ks.length≤65535∧uniP ks ks.length≤65535:=
 ⟨uniD_le ks 65535 ks.length (Nat.le_refl _) fun y hy=>(valid_elem h hy).2.1,uniP_le ks 65535 ks.length (Nat.le_refl _) fun y hy=>(valid_elem h hy).2.2⟩
theorem sizeK_kk2 (l:List Nd):sizeK (kk l)+l.length≤sizeK l:=by
 induction l with
 | nil=>simp [kk,sizeK]
 | cons x xs ih=>
  have h:kk (x::xs)=x.ks++kk xs:=by simp [kk]
  have h2:=sizeK_ks x
  have h3:sizeK (x.ks++kk xs)=sizeK x.ks+sizeK (kk xs):=by
   generalize x.ks=a
   induction a with
   | nil=>simp [sizeK]
   | cons y ys ih2=>simp only [List.cons_append,sizeK,ih2];omega
  rw [h,h3]
  simp only [sizeK,List.length_cons]
  omega
theorem targN_mk (k e n:Int)(d:List Int)(ks:List Nd):targN (.mk k e n d ks)=if k=2∧e=7 then kk ks else ks:=rfl
theorem canO_size {x:Nd}(h:validN x=true):0≤canO x∧canO x≤131071*((sizeN x:Int)-sizeK (targN x))-1+(targN x).length:=by
 obtain⟨k,e,n,d,ks⟩:=x
 have hs:sizeN (.mk k e n d ks)=1+d.length+sizeK ks:=by simp [sizeN]
 have ht:=sizeK_targ (.mk k e n d ks)
 have hk:=sizeK_length ks
 show 0≤canOf k e n d ks∧canOf k e n d ks≤_
 unfold canOf
 rcases valid_head h with ⟨rfl,h1,h2⟩|⟨rfl,h1,h2,h3⟩|⟨rfl,h1,h2,h3,h4,h5,h6⟩
 ·rw [if_pos rfl]
  omega
 ·rw [if_neg (by omega),if_pos rfl]
  have e1:targN (.mk 1 e n d ks)=ks:=by rw [targN_mk,if_neg (by omega)]
  rw [e1,hs]
  omega
 ·rw [if_neg (by omega),if_neg (by omega)]
  by_cases h7:e=7
  ·subst h7
   rw [if_pos rfl]
   have e1:targN (.mk 2 7 n d ks)=kk ks:=by rw [targN_mk,if_pos ⟨rfl,rfl⟩]
   have h8:=sizeK_kk2 ks
   obtain⟨u1,u2⟩:=uni_bd h
   obtain⟨-,hn⟩:=h5 (by omega)
   have m1:0≤n*((uniD ks ks.length+uniP ks ks.length:Nat):Int):=Int.mul_nonneg h1 (by omega)
   have m2:n*((uniD ks ks.length+uniP ks ks.length:Nat):Int)≤n*131070:=Int.mul_le_mul_of_nonneg_left (by omega) h1
   rw [e1,hs]
   omega
  ·rw [if_neg h7]
   have e1:targN (.mk 2 e n d ks)=ks:=by rw [targN_mk,if_neg (by omega)]
   have hb:=bitsI_mul e n h1
   rw [e1,hs]
   by_cases h8:e=6
   ·subst h8
    have e3:wordsI 6 n=n:=by unfold wordsI bitsI;simp;omega
    obtain⟨-,hn⟩:=h5 (by omega)
    rw [e3]
    omega
   ·obtain⟨hk0,hd⟩:=h6 (by omega)
    unfold wordsI
    unfold bytesI at hd
    rw [if_neg h7]
    omega
theorem valid_targ {x:Nd}(h:validN x=true):∀y∈targN x,validN y=true:=by
 intro y hy
 obtain⟨k,e,n,d,ks⟩:=x
 rw [targN_mk] at hy
 split at hy
 ·unfold kk at hy
  obtain⟨z,hz,hy⟩:=List.mem_flatMap.1 hy
  have hzv:=(valid_mem h hz).1
  obtain⟨k',e',n',d',ks'⟩:=z
  exact(valid_mem hzv hy).1
 ·exact(valid_mem h hy).1
theorem can_size:∀x:Nd,validN x=true→0≤canN x∧canN x≤131071*(sizeN x:Int)-1:=size_ind (by
 intro x ih h
 have ho:=canO_size h
 have hK:∀l:List Nd,(∀y∈l,0≤canN y∧canN y≤131071*(sizeN y:Int)-1)→0≤canK l∧canK l≤131071*(sizeK l:Int)-l.length:=by
  intro l hl
  induction l with
  | nil=>simp [canK,sizeK]
  | cons y ys ih2=>
   have h1:=hl y (List.mem_cons_self ..)
   have h2:=ih2 (fun z hz=>hl z (List.mem_cons_of_mem _ hz))
   simp only [canK,sizeK,List.length_cons]
   omega
 have hv:=valid_targ h
 have:=hK (targN x) (fun y hy=>ih y (targ_lt hy) (hv y hy))
 rw [canN_eq]
 omega)
def padW (b:List Int)(n:Nat):List Int:=wordsOf (b++List.replicate (8*n-b.length) 0)
def ptrP (x:Nd)(o:Int):Ptr:=
 if x.k=1 then ⟨0,if canO x=0 then -1 else o,((x.d.length / 8:Nat):Int),x.ks.length,0,0,false,0,0,0⟩
 else ⟨1,o,0,0,x.e,if x.e=7 then canO x-1 else x.n,false,0,0,0⟩
def ptrW (x:Nd)(o:Int):Int:=if x.k=0 then 0 else encW (ptrP x o)
def ptrsW (pos nx:Int):List Nd→List Int
 | []=>[]
 | t::ts=>ptrW t (nx-pos-1)::ptrsW (pos+1) (nx+canN t) ts
def elsW (a b:Nat)(pos nx:Int):List Nd→List Int
 | []=>[]
 | y::ys=>padW y.d a++(ptrsW (pos+a) nx (y.ks++List.replicate (b-y.ks.length) nd0)++elsW a b (pos+a+b) (nx+canK y.ks) ys)
def tagW (n:Int)(a b:Nat):Int:=encW ⟨0,n,a,b,0,0,false,0,0,0⟩
def bodyW (k e n:Int)(d:List Int)(ks:List Nd):List Int:=
 if k=0 then []
 else if k=1 then wordsOf d++ptrsW ((d.length / 8:Nat):Int) (canOf k e n d ks) ks
 else if e=7 then tagW n (uniD ks ks.length) (uniP ks ks.length)::elsW (uniD ks ks.length) (uniP ks ks.length) 1 (canOf k e n d ks) ks
 else if e=6 then ptrsW 0 (canOf k e n d ks) ks
 else padW d (wordsI e n).toNat
mutual
def objW:Nd→List Int
 | .mk k e n d ks=>bodyW k e n d ks++if k=2∧e=7 then objG ks else objK ks
def objK:List Nd→List Int
 | []=>[]
 | x::xs=>objW x++objK xs
def objG:List Nd→List Int
 | []=>[]
 | .mk _ _ _ _ ks::xs=>objK ks++objG xs
end
def writeF (x:Nd):List Int:=ptrW x 0::objW x
theorem objK_append (a b:List Nd):objK (a++b)=objK a++objK b:=by
 induction a with
 | nil=>simp [objK]
 | cons x xs ih=>simp only [List.cons_append,objK,ih,List.append_assoc]
theorem objG_kk (l:List Nd):objG l=objK (kk l):=by
 induction l with
 | nil=>simp [objG,kk,objK]
 | cons x xs ih=>
  obtain⟨k,e,n,d,ks⟩:=x
  have h:kk (.mk k e n d ks::xs)=ks++kk xs:=by simp [kk,Nd.ks]
  rw [h,objK_append]
  simp only [objG,ih]
def bodyN (x:Nd):List Int:=bodyW x.k x.e x.n x.d x.ks
theorem objW_eq (x:Nd):objW x=bodyN x++objK (targN x):=by
 obtain⟨k,e,n,d,ks⟩:=x
 simp only [objW,targN,bodyN,Nd.k,Nd.e,Nd.n,Nd.d,Nd.ks]
 by_cases h:k=2∧e=7
 ·rw [if_pos h,if_pos h,objG_kk]
 ·rw [if_neg h,if_neg h]
theorem objK_take (l:List Nd)(j:Nat)(h:j<l.length):objK (l.take (j+1))=objK (l.take j)++objW l[j]:=by
 rw [List.take_succ_eq_append_getElem h,objK_append]
 simp [objK]
theorem objK_nulls (ts:List Nd)(q:Nat):objK (ts++List.replicate q nd0)=objK ts:=by
 rw [objK_append]
 have:∀q,objK (List.replicate q nd0)=[]:=by
  intro q
  induction q with
  | zero=>rfl
  | succ q ih=>rw [List.replicate_succ];show objW nd0++objK (List.replicate q nd0)=[];rw [ih];rfl
 rw [this,List.append_nil]
theorem padW_length {b:List Int}{n:Nat}(h:b.length≤8*n):(padW b n).length=n:=by
 rw [padW,wordsOf_length,List.length_append,List.length_replicate]
 omega
theorem ptrsW_length:∀(ts:List Nd) (pos nx:Int),(ptrsW pos nx ts).length=ts.length
 | [],_,_=>rfl
 | t::ts,pos,nx=>by simp only [ptrsW,List.length_cons,ptrsW_length ts]
theorem elsW_length (a b:Nat):∀(ys:List Nd) (pos nx:Int),(∀y∈ys,y.d.length≤8*a∧y.ks.length≤b)→(elsW a b pos nx ys).length=ys.length*(a+b)
 | [],_,_,_=>by simp [elsW]
 | y::ys,pos,nx,h=>by
  have h1:=h y (List.mem_cons_self ..)
  have ih:=elsW_length a b ys (pos+a+b) (nx+canK y.ks) (fun z hz=>h z (List.mem_cons_of_mem _ hz))
  simp only [elsW,List.length_append,padW_length h1.1,ptrsW_length,List.length_replicate,ih,List.length_cons]
  rw [Nat.add_mul]
  omega
theorem comp_fit {n:Int}{d:List Int}{ks:List Nd}(h:validN (.mk 2 7 n d ks)=true):∀y∈ks,y.d.length≤8*uniD ks ks.length∧y.ks.length≤uniP ks ks.length:=by
 intro y hy
 obtain⟨j,hj,rfl⟩:=List.getElem_of_mem hy
 refine⟨uniD_covers ks (fun z hz=>?_) _ (Nat.le_refl _) j hj hj,uniP_covers ks _ (Nat.le_refl _) j hj hj⟩
 obtain⟨hv,-⟩:=valid_mem h hz
 have hk:=(valid_elem h hz).1
 obtain⟨k',e',n',d',ks'⟩:=z
 simp only [validN,Bool.and_eq_true] at hv
 have h2:=hv.2
 simp only [Nd.k] at hk
 subst hk
 unfold headB at h2
 rw [if_neg (by omega),if_pos rfl,decide_eq_true_iff] at h2
 exact h2.2.2.1
theorem head_str {e n:Int}{d:List Int}{ks:List Nd}(h:validN (.mk 1 e n d ks)=true):e=0∧n=0∧d.length % 8=0∧d.length≤524280∧ks.length≤65535:=by
 simp only [validN,Bool.and_eq_true] at h
 have h2:=h.2
 unfold headB at h2
 rw [if_neg (by omega),if_pos rfl,decide_eq_true_iff] at h2
 exact h2
theorem head_lst {e n:Int}{d:List Int}{ks:List Nd}(h:validN (.mk 2 e n d ks)=true):0≤n∧n≤536870911∧0≤e∧e≤7∧(6≤e→d.length=0∧(ks.length:Int)=n)∧(e<6→ks.length=0∧(d.length:Int)=bytesI e n∧trimL d e n=d):=by
 simp only [validN,Bool.and_eq_true] at h
 have h2:=h.2
 unfold headB at h2
 rw [if_neg (by omega),if_neg (by omega),if_pos rfl,decide_eq_true_iff] at h2
 exact h2
theorem head_nul {e n:Int}{d:List Int}{ks:List Nd}(h:validN (.mk 0 e n d ks)=true):Nd.mk 0 e n d ks=nd0:=by
 simp only [validN,Bool.and_eq_true] at h
 have h2:=h.2
 unfold headB at h2
 rw [if_pos rfl,decide_eq_true_iff] at h2
 obtain⟨rfl,rfl,h3,h4⟩:=h2
 rw [List.eq_nil_of_length_eq_zero h3,List.eq_nil_of_length_eq_zero h4]
 rfl
theorem body_length {x:Nd}(h:validN x=true):((bodyN x).length:Int)=canO x:=by
 obtain⟨k,e,n,d,ks⟩:=x
 have hk:=valid_k h
 simp only [Nd.k] at hk
 simp only [bodyN,canO,Nd.k,Nd.e,Nd.n,Nd.d,Nd.ks]
 rcases hk with rfl|rfl|rfl
 ·simp [bodyW,canOf]
 ·simp only [bodyW,if_neg (show ¬((1:Int)=0) by omega),if_pos]
  rw [List.length_append,wordsOf_length,ptrsW_length]
  simp [canOf]
 ·obtain⟨g1,g2,g3,g4,g5,g6⟩:=head_lst h
  simp only [bodyW,if_neg (show ¬((2:Int)=0) by omega),if_neg (show ¬((2:Int)=1) by omega)]
  by_cases h7:e=7
  ·subst h7
   rw [if_pos rfl,List.length_cons,elsW_length _ _ _ _ _ (comp_fit h)]
   simp only [canOf,if_neg (show ¬((2:Int)=0) by omega),if_neg (show ¬((2:Int)=1) by omega),if_pos]
   rw [←(g5 (by omega)).2]
   simp
   omega
  ·rw [if_neg h7]
   simp only [canOf,if_neg (show ¬((2:Int)=0) by omega),if_neg (show ¬((2:Int)=1) by omega),if_neg h7]
   by_cases h6:e=6
   ·subst h6
    rw [if_pos rfl,ptrsW_length,(g5 (by omega)).2]
    simp [wordsI,bitsI]
    omega
   ·rw [if_neg h6]
    obtain⟨g7,g8,-⟩:=g6 (by omega)
    have hb:=bitsI_mul e n g1
    have hw:wordsI e n=(bitsI e*n+63) / 64:=by unfold wordsI;rw [if_neg h7]
    have hB:bytesI e n=(bitsI e*n+7) / 8:=rfl
    rw [padW_length (by omega)]
    omega
theorem objK_length {l:List Nd}(h:∀y∈l,((objW y).length:Int)=canN y):((objK l).length:Int)=canK l:=by
 induction l with
 | nil=>simp [objK,canK]
 | cons y ys ih=>
  have h1:=h y (List.mem_cons_self ..)
  have h2:=ih (fun z hz=>h z (List.mem_cons_of_mem _ hz))
  simp only [objK,canK,List.length_append]
  omega
theorem objW_length:∀x:Nd,validN x=true→((objW x).length:Int)=canN x:=size_ind (by
 intro x ih h
 have h1:=body_length h
 have h2:=objK_length (l:=targN x) (fun y hy=>ih y (targ_lt hy) (valid_targ h y hy))
 rw [objW_eq,canN_eq,List.length_append]
 omega)
theorem writeF_length {x:Nd}(h:validN x=true):((writeF x).length:Int)=canN x+1:=by
 rw [writeF,List.length_cons,←objW_length x h]
 simp
theorem ptrW_wd (x:Nd)(o:Int):0≤ptrW x o∧ptrW x o<18446744073709551616:=by
 unfold ptrW
 split
 ·omega
 ·exact encW_bd _
theorem ptrsW_wds:∀(ts:List Nd) (pos nx:Int),Wds (ptrsW pos nx ts)
 | [],_,_=>fun z hz=>by cases hz
 | t::ts,pos,nx=>by
  intro z hz
  rcases List.mem_cons.1 hz with rfl|hz
  ·exact ptrW_wd _ _
  ·exact ptrsW_wds ts _ _ z hz
theorem padW_wds {b:List Int}(h:Bts b)(n:Nat):Wds (padW b n):=wordsOf_wds (by
 intro z hz
 rcases List.mem_append.1 hz with hz|hz
 ·exact h z hz
 ·rw [List.eq_of_mem_replicate hz];omega)
theorem elsW_wds (a b:Nat):∀(ys:List Nd) (pos nx:Int),(∀y∈ys,Bts y.d)→Wds (elsW a b pos nx ys)
 | [],_,_,_=>fun z hz=>by cases hz
 | y::ys,pos,nx,h=>by
  intro z hz
  simp only [elsW] at hz
  rcases List.mem_append.1 hz with hz|hz
  ·exact padW_wds (h y (List.mem_cons_self ..)) a z hz
  ·rcases List.mem_append.1 hz with hz|hz
   ·exact ptrsW_wds _ _ _ z hz
   ·exact elsW_wds a b ys _ _ (fun z hz=>h z (List.mem_cons_of_mem _ hz)) z hz
mutual
def bytN:Nd→Prop
 | .mk _ _ _ d ks=>Bts d∧bytK ks
def bytK:List Nd→Prop
 | []=>True
 | x::xs=>bytN x∧bytK xs
end
theorem bytK_mem {l:List Nd}(h:bytK l):∀y∈l,bytN y:=by
 induction l with
 | nil=>intro y hy;cases hy
 | cons x xs ih=>
  simp only [bytK] at h
  intro y hy
  rcases List.mem_cons.1 hy with rfl|hy
  ·exact h.1
  ·exact ih h.2 y hy
theorem bytK_of {l:List Nd}(h:∀y∈l,bytN y):bytK l:=by
 induction l with
 | nil=>simp [bytK]
 | cons x xs ih=>simp only [bytK];exact⟨h x (List.mem_cons_self ..),ih (fun y hy=>h y (List.mem_cons_of_mem _ hy))⟩
theorem bytN_d {x:Nd}(h:bytN x):Bts x.d:=by
 obtain⟨k,e,n,d,ks⟩:=x
 exact(by simpa only [bytN] using h:Bts d∧bytK ks).1
theorem bytN_ks {x:Nd}(h:bytN x):∀y∈x.ks,bytN y:=by
 obtain⟨k,e,n,d,ks⟩:=x
 exact bytK_mem (by simpa only [bytN] using h:Bts d∧bytK ks).2
theorem bytN_targ {x:Nd}(h:bytN x):∀y∈targN x,bytN y:=by
 intro y hy
 have hk:=bytN_ks h
 obtain⟨k,e,n,d,ks⟩:=x
 rw [targN_mk] at hy
 split at hy
 ·obtain⟨z,hz,hyz⟩:=List.mem_flatMap.1 hy
  exact bytN_ks (hk z hz) y hyz
 ·exact hk y hy
theorem NdR.byt {w:World}{A:Option Addr}{c:Nat}{B:Option Addr}{c2:Nat}{x:Nd}(h:NdR w A c B c2 x):bytN x:=by
 induction h with
 | mk k e n d ks A c B c2 FA Fc FB Fc2 hk he hn hd hby hdl hc hA hkl hc2 hB hcell hsub ih=>
  simp only [bytN]
  refine⟨hby,bytK_of fun y hy=>?_⟩
  obtain⟨j,hj,rfl⟩:=List.getElem_of_mem hy
  exact ih j _ (List.getElem?_eq_getElem hj)
theorem body_wds {x:Nd}(h:bytN x):Wds (bodyN x):=by
 have hd:=bytN_d h
 have hk:=bytN_ks h
 obtain⟨k,e,n,d,ks⟩:=x
 simp only [bodyN,Nd.k,Nd.e,Nd.n,Nd.d,Nd.ks] at hd hk ⊢
 unfold bodyW
 split
 ·intro z hz;cases hz
 ·split
  ·intro z hz
   rcases List.mem_append.1 hz with hz|hz
   ·exact wordsOf_wds hd z hz
   ·exact ptrsW_wds _ _ _ z hz
  ·split
   ·intro z hz
    rcases List.mem_cons.1 hz with rfl|hz
    ·exact encW_bd _
    ·exact elsW_wds _ _ _ _ _ (fun y hy=>bytN_d (hk y hy)) z hz
   ·split
    ·exact ptrsW_wds _ _ _
    ·exact padW_wds hd _
theorem objW_wds:∀x:Nd,bytN x→Wds (objW x):=size_ind (by
 intro x ih h z hz
 rw [objW_eq] at hz
 rcases List.mem_append.1 hz with hz|hz
 ·exact body_wds h z hz
 ·have:∀l:List Nd,(∀y∈l,Wds (objW y))→Wds (objK l):=by
   intro l hl
   induction l with
   | nil=>intro z hz;cases hz
   | cons y ys ih2=>
    intro z hz
    simp only [objK] at hz
    rcases List.mem_append.1 hz with hz|hz
    ·exact hl y (List.mem_cons_self ..) z hz
    ·exact ih2 (fun z hz=>hl z (List.mem_cons_of_mem _ hz)) z hz
  exact this _ (fun y hy=>ih y (targ_lt hy) (bytN_targ h y hy)) z hz)
theorem writeF_wds {x:Nd}(h:bytN x):Wds (writeF x):=by
 intro z hz
 rcases List.mem_cons.1 hz with rfl|hz
 ·exact ptrW_wd _ _
 ·exact objW_wds x h z hz
end Go.Proofs.YtbpmeppdjicmhaaGreatDoor
