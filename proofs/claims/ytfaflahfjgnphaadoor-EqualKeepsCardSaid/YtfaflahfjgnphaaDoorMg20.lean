/- The texts TrimN, NodeO, NodeF, Can, FarW, DenB (what is wanted of them), one after the other. -/
import Derived.Test.YtfaflahfjgnphaaDoorMg19
namespace Go.Proofs.YtfaflahfjgnphaaDoor
open Go.ChangeShapes Go.WideShapes Go.ChangeAt Go.RowKit
set_option linter.unusedVariables false
set_option linter.unusedSimpArgs false
set_option maxRecDepth 100000
def wordsF (d:List Int):Nat→Nat
 | 0=>0
 | i+1=>if zat d i=0 then wordsF d i else i / 8+1
def wordsT (d:List Int):Nat:=wordsF d d.length
def kAt (ks:List Nd)(i:Nat):Int:=(ks[i]?.map Nd.k).getD 0
def ptrsF (ks:List Nd):Nat→Nat
 | 0=>0
 | i+1=>if kAt ks i=0 then ptrsF ks i else i+1
def ptrsT (ks:List Nd):Nat:=ptrsF ks ks.length
theorem kAt_get {ks:List Nd}{i:Nat}(h:i<ks.length):kAt ks i=(ks[i]).k:=by simp [kAt,h]
theorem wordsF_le (d:List Int):∀i,8*wordsF d i<i+8
 | 0=>by simp [wordsF]
 | i+1=>by
  have:=wordsF_le d i
  unfold wordsF
  split<;>omega
theorem wordsT_le (d:List Int)(h:d.length % 8=0):8*wordsT d≤d.length:=by
 have:=wordsF_le d d.length
 unfold wordsT
 omega
theorem ptrsF_le (ks:List Nd):∀i,ptrsF ks i≤i
 | 0=>by simp [ptrsF]
 | i+1=>by
  have:=ptrsF_le ks i
  unfold ptrsF
  split<;>omega
theorem ptrsT_le (ks:List Nd):ptrsT ks≤ks.length:=ptrsF_le ks ks.length
mutual
def trimN:Nd→Nd
 | .mk k e n d ks=>.mk k e n (if k=1 then d.take (8*wordsT d) else d) (if k=1 then (trimK ks).take (ptrsT ks) else trimK ks)
def trimK:List Nd→List Nd
 | []=>[]
 | x::xs=>trimN x::trimK xs
end
theorem trimK_map (ks:List Nd):trimK ks=ks.map trimN:=by
 induction ks with
 | nil=>simp [trimK]
 | cons x xs ih=>simp [trimK,ih]
theorem trimK_length (ks:List Nd):(trimK ks).length=ks.length:=by rw [trimK_map,List.length_map]
theorem trimK_get (ks:List Nd)(j:Nat)(h:j<ks.length):(trimK ks)[j]'(by rw [trimK_length];exact h)=trimN ks[j]:=by simp [trimK_map]
theorem trimN_k (x:Nd):(trimN x).k=x.k:=by obtain⟨k,e,n,d,ks⟩:=x;simp [trimN,Nd.k]
theorem trimN_e (x:Nd):(trimN x).e=x.e:=by obtain⟨k,e,n,d,ks⟩:=x;simp [trimN,Nd.e]
theorem trimN_n (x:Nd):(trimN x).n=x.n:=by obtain⟨k,e,n,d,ks⟩:=x;simp [trimN,Nd.n]
mutual
def trimmedN:Nd→Bool
 | .mk k e n d ks=>decide (k=1→8*wordsT d=d.length∧ptrsT ks=ks.length)&&trimmedK ks
def trimmedK:List Nd→Bool
 | []=>true
 | x::xs=>trimmedN x&&trimmedK xs
end
theorem trimmedK_append (a b:List Nd):trimmedK (a++b)=(trimmedK a&&trimmedK b):=by
 induction a with
 | nil=>simp [trimmedK]
 | cons x xs ih=>simp only [List.cons_append,trimmedK,ih,Bool.and_assoc]
theorem trimmedK_take (l:List Nd)(j:Nat)(h:j<l.length):trimmedK (l.take (j+1))=(trimmedK (l.take j)&&trimmedN l[j]):=by
 rw [List.take_succ_eq_append_getElem h,trimmedK_append]
 simp [trimmedK]
theorem trimmedK_no (l:List Nd)(j:Nat)(h:j<l.length)(hb:trimmedN l[j]=false):trimmedK l=false:=by
 have h1:=trimmedK_take l j h
 have h2:=trimmedK_append (l.take (j+1)) (l.drop (j+1))
 rw [List.take_append_drop] at h2
 rw [h2,h1,hb]
 simp
def uniD (ks:List Nd):Nat→Nat
 | 0=>0
 | i+1=>max (uniD ks i) (((ks[i]?.map Nd.d).getD []).length / 8)
def uniP (ks:List Nd):Nat→Nat
 | 0=>0
 | i+1=>max (uniP ks i) (((ks[i]?.map Nd.ks).getD []).length)
theorem uniD_succ {ks:List Nd}{i:Nat}(h:i<ks.length):uniD ks (i+1)=max (uniD ks i) ((ks[i]).d.length / 8):=by simp [uniD,h]
theorem uniP_succ {ks:List Nd}{i:Nat}(h:i<ks.length):uniP ks (i+1)=max (uniP ks i) ((ks[i]).ks.length):=by simp [uniP,h]
def NdO (lo hi:Nat)(w:World)(A:Option Addr)(c:Nat)(B:Option Addr)(c2:Nat)(x:Nd):Prop:=∀W:World,(∀k,lo≤k→k<hi→W.heap[k]?=w.heap[k]?)→NdR W A c B c2 x
theorem NdO.nd {lo hi:Nat}{w:World}{A:Option Addr}{c:Nat}{B:Option Addr}{c2:Nat}{x:Nd}(h:NdO lo hi w A c B c2 x):NdR w A c B c2 x:=h w (fun _ _ _=>rfl)
theorem NdO.to {lo hi:Nat}{w w':World}{A:Option Addr}{c:Nat}{B:Option Addr}{c2:Nat}{x:Nd}(h:NdO lo hi w A c B c2 x)(hw:∀k,lo≤k→k<hi→w'.heap[k]?=w.heap[k]?):NdO lo hi w' A c B c2 x:=
 fun W hW=>h W fun k h1 h2=>(hW k h1 h2).trans (hw k h1 h2)
theorem NdO.below {lo hi:Nat}{w w':World}{A:Option Addr}{c:Nat}{B:Option Addr}{c2:Nat}{x:Nd}(h:NdO lo hi w A c B c2 x){N:Nat}(hb:Below N w w')(hN:hi≤N):NdO lo hi w' A c B c2 x:=h.to fun k _ h2=>hb.block k (by omega)
def NodF (lo:Nat)(x:Nd):Fact:=fun v w=>∃A c B c2 hi,v=.agg #[.int .i64 x.k,.int .i64 x.e,.int .i64 x.n,.slice A x.d.length c,.slice B x.ks.length c2]∧hi≤w.heap.size∧NdO lo hi w A c B c2 x
theorem Blk.keeps {W W':World}{b:Nat}{cs:Array Value}(h:Blk W b cs){S:Nat→Prop}(hk:Keeps S W W')(hS:¬S b):Blk W' b cs:=by
 have hb:=hk.block b h.lt hS
 exact⟨fun o=>by rw [World.cell?_of_block (w:=W) hb];exact h.cell o,fun o=>by rw [World.frozen?_of_block (w:=W) hb];exact h.free o,Nat.lt_of_lt_of_le h.lt hk.size⟩
theorem got_agree {w w':World}{base:Nat}{E:TypeId}{k:IntKind}{v:Value}{zs:List Int}(h:Got w base E k v zs)(hw:∀q,base≤q→q<w.heap.size→w'.heap[q]?=w.heap[q]?):Got w' base E k v zs:=by
 refine⟨h.1,?_⟩
 rcases h.2 with h3|⟨g,cap,cur,hv,hg,hh,r⟩
 ·exact .inl h3
 ·exact .inr ⟨g,cap,cur,hv,hg,(hw g hg (Array.getElem?_eq_some_iff.1 hh).1).trans hh,r⟩
theorem KsR.node {w:World}{B:Option Addr}{ks:List Nd}(h:KsR w B ks){k e n:Int}{d:List Int}{A:Option Addr}{c c2:Nat}
  (hk:-9223372036854775808≤k∧k≤9223372036854775807) (he:-9223372036854775808≤e∧e≤9223372036854775807) (hn:-9223372036854775808≤n∧n≤9223372036854775807)
  (hd:Ri w .u8 A d) (hby:Bts d) (hdl:d.length≤c) (hc:c≤maxLen) (hA:A=none→c=0) (hkl:ks.length≤c2) (hc2:c2≤maxLen) (hB:B=none→c2=0):NdR w A c B c2 (.mk k e n d ks):=by
 rcases h with rfl|⟨b,off,hBe,h⟩
 ·exact .mk k e n d [] A c B c2 (fun _=>none) (fun _=>0) (fun _=>none) (fun _=>0) hk he hn hd hby hdl hc hA hkl hc2 hB (.inl rfl) (fun j x hx=>by simp at hx)
 ·refine .mk k e n d ks A c B c2 (fun j=>if h0:j<ks.length then Classical.choose (h j h0) else none) (fun j=>if h0:j<ks.length then Classical.choose (Classical.choose_spec (h j h0)) else 0)
   (fun j=>if h0:j<ks.length then Classical.choose (Classical.choose_spec (Classical.choose_spec (h j h0))) else none) (fun j=>if h0:j<ks.length then Classical.choose (Classical.choose_spec (Classical.choose_spec (Classical.choose_spec (h j h0)))) else 0)
   hk he hn hd hby hdl hc hA hkl hc2 hB (.inr ⟨b,off,hBe,fun j x hj=>?_⟩) (fun j x hj=>?_)
  ·have hjl:j<ks.length:=(List.getElem?_eq_some_iff.1 hj).1
   obtain rfl:ks[j]=x:=(List.getElem?_eq_some_iff.1 hj).2
   have hs:=Classical.choose_spec (Classical.choose_spec (Classical.choose_spec (Classical.choose_spec (h j hjl))))
   simp only [dif_pos hjl]
   exact⟨hs.1,hs.2.1,hs.2.2.1,hs.2.2.2.1,hs.2.2.2.2.1⟩
  ·have hjl:j<ks.length:=(List.getElem?_eq_some_iff.1 hj).1
   obtain rfl:ks[j]=x:=(List.getElem?_eq_some_iff.1 hj).2
   have hs:=Classical.choose_spec (Classical.choose_spec (Classical.choose_spec (Classical.choose_spec (h j hjl))))
   simp only [dif_pos hjl]
   exact hs.2.2.2.2.2
theorem nd0_here (w:World)(k:Int)(hk:-9223372036854775808≤k∧k≤9223372036854775807):NdR w none 0 none 0 (.mk k 0 0 [] []):=
 (show KsR w none [] from .inl rfl).node hk ⟨by decide,by decide⟩ ⟨by decide,by decide⟩ (Ri.nil _ _ _) (by intro z hz;cases hz) (by simp) (by unfold maxLen;omega) (fun _=>rfl) (by simp) (by unfold maxLen;omega) (fun _=>rfl)
theorem allN_atF {P:Nat→Prop}:∀{n s:Nat},AllN P n s→∀j,s≤j→j<s+n→P j
 | 0,_,_,_,_,h=>by omega
 | n+1,s,h,j,h1,h2=>by
  by_cases e:s=j
  ·subst e;exact h.1
  ·exact allN_atF h.2 j (by omega) (by omega)
def canOf (k e n:Int)(d:List Int)(ks:List Nd):Int:=
 if k=0 then 0
 else if k=1 then ((d.length / 8+ks.length:Nat):Int)
 else if e=7 then 1+n*((uniD ks ks.length+uniP ks ks.length:Nat):Int)
 else wordsI e n
def canO (x:Nd):Int:=canOf x.k x.e x.n x.d x.ks
mutual
def canN:Nd→Int
 | .mk k e n d ks=>canOf k e n d ks+if k=2∧e=7 then canG ks else canK ks
def canK:List Nd→Int
 | []=>0
 | x::xs=>canN x+canK xs
def canG:List Nd→Int
 | []=>0
 | .mk _ _ _ _ ks::xs=>canK ks+canG xs
end
theorem canK_append (a b:List Nd):canK (a++b)=canK a+canK b:=by
 induction a with
 | nil=>simp [canK]
 | cons x xs ih=>simp only [List.cons_append,canK,ih];omega
theorem canG_kk (l:List Nd):canG l=canK (kk l):=by
 induction l with
 | nil=>simp [canG,kk,canK]
 | cons x xs ih=>
  obtain⟨k,e,n,d,ks⟩:=x
  have h:kk (.mk k e n d ks::xs)=ks++kk xs:=by simp [kk,Nd.ks]
  rw [h,canK_append]
  simp only [canG,ih]
theorem canN_eq (x:Nd):canN x=canO x+canK (targN x):=by
 obtain⟨k,e,n,d,ks⟩:=x
 simp only [canN,targN,canO,Nd.k,Nd.e,Nd.n,Nd.d,Nd.ks]
 by_cases h:k=2∧e=7
 ·rw [if_pos h,if_pos h,canG_kk]
 ·rw [if_neg h,if_neg h]
theorem valid_k {x:Nd}(h:validN x=true):x.k=0∨x.k=1∨x.k=2:=by
 obtain⟨k,e,n,d,ks⟩:=x
 have h2:headB k e n d ks=true:=by
  simp only [validN,Bool.and_eq_true] at h
  exact h.2
 unfold headB at h2
 show k=0∨k=1∨k=2
 split at h2
 ·exact .inl (by assumption)
 ·split at h2
  ·exact .inr (.inl (by assumption))
  ·split at h2
   ·exact .inr (.inr (by assumption))
   ·cases h2
theorem decP_k (x:Int)(h5:0≤x):(decP x).k=x % 4:=by
 unfold decP
 by_cases c0:x % 4=0
 ·rw [if_pos c0,c0]
 ·by_cases c1:x % 4=1
  ·rw [if_neg c0,if_pos c1,c1]
  ·by_cases c2:x % 4=2
   ·rw [if_neg c0,if_neg c1,if_pos c2,c2]
   ·rw [if_neg c0,if_neg c1,if_neg c2];show 3=x % 4;omega
structure Loc where
 o:Ob
 m:Int
 e:Int
def locQ (q:Fol)(r:Ob×Int)(D m dep:Int):Loc:=
 if q.e≠0∨q.w=0 then ⟨ob0,m,q.e⟩ else if D<dep then ⟨ob0,m,7⟩ else if r.2≠0 then ⟨ob0,m,r.2⟩ else if m<r.1.cost then ⟨ob0,m,8⟩ else ⟨r.1,m-r.1.cost,0⟩
def locD (ls:List (List Int))(D m s a dep:Int):Loc:=locQ (followF ls s a) (objF ls s a) D m dep
def datO (ls:List (List Int))(o:Ob):List Int:=
 if o.k=1 then bytesOf (datW ls o.sg o.at' o.d) else if o.k=2∧o.el≠6 then trimL (bytesOf (datW ls o.sg o.at' (wordsI o.el o.n))) o.el o.n else []
def kidR (val:Int→Int→Int→Val)(o:Ob)(m:Int):Vls:=runK (fun m i=>val m o.sg ((ptrO o).1+i)) m (ptrO o).2.toNat
def contK (val:Int→Int→Int→Val)(ls:List (List Int))(m:Int)(o:Ob):Val:=
 if (kidR val o m).e≠0 then errV (kidR val o m).m (kidR val o m).e else ⟨.mk o.k o.el o.n (datO ls o) (kidR val o m).ks,(kidR val o m).m,0⟩
def elsR (val:Int→Int→Int→Val)(ls:List (List Int))(o:Ob)(m:Int):Vls:=runK (fun m i=>contK val ls m (eleO o i)) m o.n.toNat
def bodyK (val:Int→Int→Int→Val)(ls:List (List Int))(m:Int)(o:Ob):Val:=
 if o.el=7 then (if (elsR val ls o m).e≠0 then errV (elsR val ls o m).m (elsR val ls o m).e else ⟨.mk o.k o.el o.n [] (elsR val ls o m).ks,(elsR val ls o m).m,0⟩) else contK val ls m o
theorem runK_congr {f g:Int→Nat→Val}{m:Int}:∀n,(∀m i,i<n→f m i=g m i)→runK f m n=runK g m n
 | 0,_=>rfl
 | n+1,h=>by
  have ih:=runK_congr (f:=f) (g:=g) (m:=m) n (fun m i hi=>h m i (by omega))
  unfold runK
  rw [ih,h _ n (by omega)]
theorem contK_struct (val:Int→Int→Int→Val)(ls:List (List Int))(m:Int)(o:Ob)(hk:o.k=1)(he:o.el=0)(hn:o.n=0)(hp:0≤o.p):contK val ls m o=structV val ls m o:=by
 have hR:kidR val o m=runK (fun m i=>val m o.sg (o.at'+o.d+i)) m o.p.toNat:=by
  unfold kidR ptrO
  by_cases h:0<o.p
  ·rw [if_pos ⟨hk,h⟩]
  ·have h0:o.p.toNat=0:=by omega
   rw [if_neg (by omega),if_neg (by omega),h0]
   rfl
 unfold contK structV
 rw [hR,hk,he,hn]
 have hd:datO ls o=bytesOf (datW ls o.sg o.at' o.d):=by unfold datO;rw [if_pos hk]
 rw [hd]
theorem contK_list (val:Int→Int→Int→Val)(ls:List (List Int))(m:Int)(o:Ob)(hk:o.k=2)(he0:0≤o.el)(he:o.el<6)(hc:o.cost=wordsI o.el o.n):
  contK val ls m o=⟨.mk 2 o.el o.n (trimL (bytesOf (datW ls o.sg o.at' o.cost)) o.el o.n) [],m,0⟩:=by
 have hR:kidR val o m=⟨[],m,0⟩:=by
  unfold kidR ptrO
  rw [if_neg (by omega),if_neg (by omega)]
  rfl
 unfold contK
 rw [hR,if_neg (by simp),hk,hc]
 have hd:datO ls o=trimL (bytesOf (datW ls o.sg o.at' (wordsI o.el o.n))) o.el o.n:=by unfold datO;rw [if_neg (by omega),if_pos ⟨hk,by omega⟩]
 rw [hd]
theorem contK_ptrs (val:Int→Int→Int→Val)(ls:List (List Int))(m:Int)(o:Ob)(hk:o.k=2)(he:o.el=6)(hn:0≤o.n):contK val ls m o=listV val ls m o:=by
 have hR:kidR val o m=runK (elemV val ls o) m o.n.toNat:=by
  unfold kidR ptrO
  by_cases h:0<o.n
  ·rw [if_neg (by omega),if_pos ⟨hk,he,h⟩]
   refine runK_congr _ (fun m i _=>?_)
   unfold elemV
   rw [if_pos he]
  ·have h0:o.n.toNat=0:=by omega
   rw [if_neg (by omega),if_neg (by omega),h0]
   rfl
 unfold contK listV
 rw [hR,hk]
 have hd:datO ls o=[]:=by unfold datO;rw [if_neg (by omega),if_neg (by omega)]
 rw [hd]
theorem elsR_list (val:Int→Int→Int→Val)(ls:List (List Int))(m:Int)(o:Ob)(he:o.el=7)(hp:0≤o.p):elsR val ls o m=runK (elemV val ls o) m o.n.toNat:=by
 unfold elsR
 refine runK_congr _ (fun m i _=>?_)
 unfold elemV
 rw [if_neg (by omega)]
 exact contK_struct val ls m (eleO o i) rfl rfl rfl hp
theorem compF_k (ls:List (List Int))(s st c cost:Int)(h:(compF ls s st c cost).2=0):(compF ls s st c cost).1.k≠0:=by
 unfold compF at h ⊢
 split at h
 ·exact absurd h (by decide)
 ·rename_i h1
  rw [if_neg h1]
  show (2:Int)≠0
  decide
theorem objF_some (ls:List (List Int))(s a:Int)(h1:(followF ls s a).e=0)(h2:(followF ls s a).w≠0)(h3:(objF ls s a).2=0):(objF ls s a).1.k≠0:=by
 unfold objF at h3 ⊢
 rw [if_neg (by simp [h1,h2])] at h3 ⊢
 unfold objP at h3 ⊢
 repeat' split at h3
 all_goals try (exfalso;revert h3;simp;done)
 all_goals first|(simp_all;done)|(have h4:=compF_k _ _ _ _ _ h3;simp_all)
theorem valV_loc {ls:List (List Int)}(hw:Wd2 ls)(hm:ls.length≤40)(hf:∀j,(seg ls j).length≤20000000)(D m s a dep:Int)(r:Nat)(hr:(D-dep+1).toNat=r):
  valV ls r m s a=if (locD ls D m s a dep).e≠0 then errV (locD ls D m s a dep).m (locD ls D m s a dep).e else bodyK (valV ls (r-1)) ls (locD ls D m s a dep).m (locD ls D m s a dep).o:=by
 have hC:=objF_cases hw (by omega) (fun j=>by have:=hf j;omega) s a
 have hS:=objF_some ls s a
 have hnull:∀r m,errV m 0=bodyK (valV ls r) ls m ob0:=fun r m=>rfl
 unfold locD
 generalize hq0:followF ls s a=q0 at *
 by_cases h1:q0.e≠0∨q0.w=0
 ·have hL:locQ q0 (objF ls s a) D m dep=⟨ob0,m,q0.e⟩:=by unfold locQ;rw [if_pos h1]
  have hV:valV ls r m s a=errV m q0.e:=by
   cases r<;>(unfold valV;rw [hq0,if_pos h1])
  rw [hL,hV]
  by_cases h2:q0.e=0
  ·rw [h2,if_neg (by simp)]
   exact hnull _ _
  ·rw [if_pos h2]
 cases r with
 | zero=>
  have hL:locQ q0 (objF ls s a) D m dep=⟨ob0,m,7⟩:=by unfold locQ;rw [if_neg h1,if_pos (by clear hC;omega)]
  rw [hL]
  unfold valV
  rw [hq0,if_neg h1]
  rfl
 | succ r=>
  unfold valV
  rw [hq0,if_neg h1]
  unfold bodyV
  generalize objF ls s a=q at *
  have hD:¬D<dep:=by clear hC hS;omega
  by_cases h2:q.2≠0
  ·have hL:locQ q0 q D m dep=⟨ob0,m,q.2⟩:=by unfold locQ;rw [if_neg h1,if_neg hD,if_pos h2]
   rw [hL,if_pos h2,if_pos h2]
  ·rw [if_neg h2]
   by_cases h3:m<q.1.cost
   ·have hL:locQ q0 q D m dep=⟨ob0,m,8⟩:=by unfold locQ;rw [if_neg h1,if_neg hD,if_neg h2,if_pos h3]
    rw [hL,if_pos h3]
    rfl
   have hL:locQ q0 q D m dep=⟨q.1,m-q.1.cost,0⟩:=by unfold locQ;rw [if_neg h1,if_neg hD,if_neg h2,if_neg h3]
   rw [hL,if_neg h3,if_neg (show ¬(Loc.e ⟨q.1,m-q.1.cost,0⟩≠0) from fun h=>h rfl)]
   have hk0:=hS (Classical.byContradiction fun h=>h1 (.inl h)) (fun h=>h1 (.inr h)) (Classical.byContradiction fun h=>h2 h)
   show _=bodyK (valV ls r) ls (m-q.1.cost) q.1
   rcases hC with ⟨h4,-⟩|⟨-,h4,h5,h6,-,-,h7,-⟩|⟨-,h4,h5,h6,h7,-,-,-,h8,-⟩|⟨-,h4,h5,h6,-,-,-,h7,-⟩
   ·rw [h4] at hk0;exact absurd rfl hk0
   ·rw [if_pos h4]
    unfold bodyK
    rw [if_neg (by omega)]
    exact(contK_struct _ _ _ _ h4 h5 h6 h7).symm
   ·rw [if_neg (show ¬q.1.k=1 by omega)]
    unfold bodyK
    rw [if_neg (show ¬q.1.el=7 by omega)]
    by_cases h9:q.1.el<6
    ·rw [if_pos h9]
     exact(contK_list _ _ _ _ h4 h5 h9 h8).symm
    ·rw [if_neg h9]
     exact(contK_ptrs _ _ _ _ h4 (by omega) h7).symm
   ·rw [if_neg (show ¬q.1.k=1 by omega),if_neg (show ¬q.1.el<6 by omega)]
    unfold bodyK listV
    rw [if_pos h5,elsR_list _ _ _ _ h5 h7,h4]
end Go.Proofs.YtfaflahfjgnphaaDoor
