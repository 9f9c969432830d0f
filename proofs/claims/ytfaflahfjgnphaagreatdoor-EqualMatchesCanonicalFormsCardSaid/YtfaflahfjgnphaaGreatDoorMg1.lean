/- The texts Num, Mem, Word, Ref01 (what is wanted of them), one after the other. -/
import Derived.WalkKit
import Derived.Below
import Derived.OwnWalk
import Derived.Lib.Hide
import Derived.Deep.Draws
import Derived.Laws.AppendOwnNone
import Derived.Test.YtfaflahfjgnphaaGreatDoorRows
import Derived.ProofKit
import Derived.OpenShut
import Derived.Deep.DeepFit
import Derived.RegionTactic
import Derived.Deep.QuietTactic
import Derived.BigQuiet
namespace Go.Proofs.YtfaflahfjgnphaaGreatDoor
open Go.RowKit Go.ChangeShapes Go.WideShapes Go.ChangeAt
set_option linter.unusedVariables false
set_option linter.unusedSimpArgs false
set_option maxRecDepth 100000
def fldN (w a n:Nat):Nat:=w / 2 ^ a % 2 ^ n
theorem fldN_lt (w a n:Nat):fldN w a n<2 ^ n:=Nat.mod_lt _ (Nat.two_pow_pos _)
theorem pow_le_64 {n:Nat}(h:n≤64):2 ^ n≤18446744073709551616:=Nat.pow_le_pow_right (n:=2) (by decide) h
theorem mask_lt (a n:Nat)(h:a+n≤64):(2 ^ n-1)*2 ^ a<2 ^ 64:=by
 have h1:(2 ^ n-1)*2 ^ a<2 ^ n*2 ^ a:=Nat.mul_lt_mul_of_pos_right (by have:=Nat.two_pow_pos n;omega) (Nat.two_pow_pos _)
 rw [←Nat.pow_add] at h1
 exact Nat.lt_of_lt_of_le h1 (Nat.pow_le_pow_right (by decide) (by omega))
theorem fldN_step (w a i:Nat):fldN w a (i+1)=fldN w a i+w / 2 ^ (a+i) % 2*2 ^ i:=by
 unfold fldN
 rw [Nat.pow_succ,Nat.mod_mul,Nat.div_div_eq_div_mul,←Nat.pow_add,Nat.mul_comm (2 ^ i)]
def fld (w a n:Int):Int:=((fldN w.toNat a.toNat n.toNat:Nat):Int)
def sgn (w a n:Int):Int:=if 2 ^ (n.toNat-1)≤fld w a n then fld w a n-2 ^ n.toNat else fld w a n
theorem fld_bd (w a n:Int)(hn:n≤64):0≤fld w a n∧fld w a n<18446744073709551616:=by
 have h:=fldN_lt w.toNat a.toNat n.toNat
 have h2:=pow_le_64 (n:=n.toNat) (by omega)
 unfold fld
 omega
theorem fld_lt (w a n:Int):fld w a n<2 ^ n.toNat:=by
 have h:=fldN_lt w.toNat a.toNat n.toNat
 unfold fld
 have e:(2:Int) ^ n.toNat=((2 ^ n.toNat:Nat):Int):=by simp
 rw [e]
 omega
theorem fld_nonneg (w a n:Int):0≤fld w a n:=Int.natCast_nonneg _
theorem mask_eq (n:Int)(h1:0≤n)(h2:n≤64):(18446744073709551615:Int) / 2 ^ (64-n).toNat=((2 ^ n.toNat-1:Nat):Int):=by
 obtain⟨m,rfl⟩:=Int.eq_ofNat_of_zero_le h1
 have e:(64-(m:Int)).toNat=64-m:=by omega
 rw [e,Int.toNat_natCast]
 have e2:(2:Int) ^ (64-m)=((2 ^ (64-m):Nat):Int):=by simp
 rw [e2,show (18446744073709551615:Int)=((18446744073709551615:Nat):Int) from rfl,←Int.natCast_ediv]
 congr 1
 have hp:2 ^ m*2 ^ (64-m)=18446744073709551616:=by rw [←Nat.pow_add,show m+(64-m)=64 by omega]
 have hq:=Nat.two_pow_pos (64-m)
 have hr:=Nat.two_pow_pos m
 apply Nat.div_eq_of_lt_le
 ·rw [Nat.sub_mul];omega
 ·rw [Nat.sub_add_cancel hr];omega
theorem fld_go (x a n:Int)(h1:0≤n)(h2:n≤64)(h5:0≤x)(h6:x<18446744073709551616):
  bits .and .u64 (x / 2 ^ a.toNat) (18446744073709551615 / 2 ^ (64-n).toNat)=fld x a n:=by
 obtain⟨X,rfl⟩:=Int.eq_ofNat_of_zero_le h5
 rw [mask_eq n h1 h2]
 have e:((X:Int) / 2 ^ a.toNat)=((X / 2 ^ a.toNat:Nat):Int):=by simp
 have hle:=Nat.div_le_self X (2 ^ a.toNat)
 have hm:=mask_lt 0 n.toNat (by omega)
 rw [e,bits_and_u64_nat _ _ (by omega) (by omega),Nat.and_two_pow_sub_one_eq_mod]
 rfl
theorem sgn_go (x a n:Int)(h1:1≤n)(h2:n≤64):
  Go.RowKit.wrap64 (IntKind.u64.wrap (fld x a n*2 ^ (64-n).toNat)) / 2 ^ (64-n).toNat=sgn x a n:=by
 have hl:=fld_lt x a n
 have h0:=fld_nonneg x a n
 unfold sgn
 generalize fld x a n=f at *
 obtain⟨m,rfl⟩:∃m:Nat,n=(m:Int)+1:=⟨(n-1).toNat,by omega⟩
 have e1:(64-((m:Int)+1)).toNat=63-m:=by omega
 have e2:((m:Int)+1).toNat=m+1:=by omega
 rw [e2] at hl
 rw [e1,e2,show m+1-1=m by omega]
 have hp:(0:Int)<2 ^ (63-m):=Int.pow_pos (by decide)
 have e3:(2:Int) ^ m*2 ^ (63-m)=9223372036854775808:=by rw [←Int.pow_add,show m+(63-m)=63 by omega];rfl
 have e4:(2:Int) ^ (m+1)*2 ^ (63-m)=18446744073709551616:=by rw [←Int.pow_add,show m+1+(63-m)=64 by omega];rfl
 generalize (2:Int) ^ (63-m)=P at *
 have hfP:f*P<18446744073709551616:=by rw [←e4];exact Int.mul_lt_mul_of_pos_right hl hp
 have hf0:0≤f*P:=Int.mul_nonneg h0 (by omega)
 rw [IntKind.wrap_u64,Int.emod_eq_of_lt hf0 hfP]
 by_cases hc:2 ^ m≤f
 ·rw [if_pos hc]
  have hg:9223372036854775808≤f*P:=by rw [←e3];exact Int.mul_le_mul_of_nonneg_right hc (by omega)
  have hw:Go.RowKit.wrap64 (f*P)=(f-2 ^ (m+1))*P:=by
   rw [Int.sub_mul,e4]
   unfold Go.RowKit.wrap64
   omega
  rw [hw,Int.mul_ediv_cancel _ (Int.ne_of_gt hp)]
 ·rw [if_neg hc]
  have hg:f*P<9223372036854775808:=by rw [←e3];exact Int.mul_lt_mul_of_pos_right (by omega) hp
  have hw:Go.RowKit.wrap64 (f*P)=f*P:=by
   unfold Go.RowKit.wrap64
   omega
  rw [hw,Int.mul_ediv_cancel _ (Int.ne_of_gt hp)]
theorem sgn_bd (x a n:Int)(h1:1≤n)(h2:n≤64):-9223372036854775808≤sgn x a n∧sgn x a n≤9223372036854775807:=by
 have hl:=fld_lt x a n
 have h0:=fld_nonneg x a n
 unfold sgn
 generalize fld x a n=f at *
 obtain⟨m,rfl⟩:∃m:Nat,n=(m:Int)+1:=⟨(n-1).toNat,by omega⟩
 have e2:((m:Int)+1).toNat=m+1:=by omega
 rw [e2] at hl ⊢
 rw [show m+1-1=m by omega]
 have hp:(2:Int) ^ (m+1)=2 ^ m*2:=Int.pow_succ ..
 have hm:(2:Int) ^ m≤2 ^ 63:=by
  have:=Nat.pow_le_pow_right (n:=2) (by decide) (show m≤63 by omega)
  have e:(2:Int) ^ m=((2 ^ m:Nat):Int):=by simp
  rw [e]
  omega
 have hm0:(0:Int)<2 ^ m:=Int.pow_pos (by decide)
 generalize (2:Int) ^ m=P at *
 split<;>omega
def leF (z:Nat→Int):Nat→Int
 | 0=>0
 | n+1=>leF z n+z n*256 ^ n
theorem leF_bd (z:Nat→Int)(n:Nat)(hz:∀i,i<n→0≤z i∧z i<256):0≤leF z n∧leF z n<256 ^ n:=by
 induction n with
 | zero=>simp [leF]
 | succ n ih=>
  have h:=ih (fun i hi=>hz i (by omega))
  have hn:=hz n (by omega)
  have hp:(0:Int)<256 ^ n:=Int.pow_pos (by decide)
  have h1:z n*256 ^ n≤255*256 ^ n:=Int.mul_le_mul_of_nonneg_right (by omega) (by omega)
  have h2:0≤z n*256 ^ n:=Int.mul_nonneg hn.1 (by omega)
  have h3:(256:Int) ^ (n+1)=256 ^ n*256:=Int.pow_succ ..
  simp only [leF]
  omega
theorem leF_congr {z y:Nat→Int}(n:Nat)(h:∀i,i<n→z i=y i):leF z n=leF y n:=by
 induction n with
 | zero=>rfl
 | succ n ih=>simp only [leF];rw [ih (fun i hi=>h i (by omega)),h n (by omega)]
def byteOf (w:Int)(i:Nat):Int:=w / 256 ^ i % 256
theorem byteOf_bd (w:Int)(i:Nat):0≤byteOf w i∧byteOf w i<256:=by unfold byteOf;omega
theorem leF_byteOf (w:Int)(n:Nat):leF (byteOf w) n=w % 256 ^ n:=by
 induction n with
 | zero=>simp [leF,Int.emod_one]
 | succ n ih=>
  have hp:(0:Int)<256 ^ n:=Int.pow_pos (by decide)
  simp only [leF,ih,byteOf]
  rw [Int.pow_succ]
  have h1:=Int.emod_add_mul_ediv w (256 ^ n)
  have h2:=Int.emod_add_mul_ediv (w / 256 ^ n) 256
  have h3:=Int.emod_nonneg w (Int.ne_of_gt hp)
  have h4:=Int.emod_lt_of_pos w hp
  have h5:0≤w / 256 ^ n % 256∧w / 256 ^ n % 256<256:=by omega
  symm
  have key:w=(w % 256 ^ n+w / 256 ^ n % 256*256 ^ n)+(256 ^ n*256)*(w / 256 ^ n / 256):=by
   have h6:w / 256 ^ n*256 ^ n=(w / 256 ^ n % 256+256*(w / 256 ^ n / 256))*256 ^ n:=by rw [h2]
   rw [Int.add_mul] at h6
   have h7:256*(w / 256 ^ n / 256)*256 ^ n=(256 ^ n*256)*(w / 256 ^ n / 256):=by
    rw [Int.mul_right_comm,Int.mul_comm (256 ^ n) 256]
   have h8:256 ^ n*(w / 256 ^ n)=w / 256 ^ n*256 ^ n:=Int.mul_comm ..
   omega
  have hb:w / 256 ^ n % 256*256 ^ n≤255*256 ^ n:=Int.mul_le_mul_of_nonneg_right (by omega) (by omega)
  have hb0:0≤w / 256 ^ n % 256*256 ^ n:=Int.mul_nonneg h5.1 (by omega)
  conv=>lhs;rw [key]
  rw [Int.add_mul_emod_self_left]
  apply Int.emod_eq_of_lt
  ·omega
  ·omega
theorem byteOf_leF (z:Nat→Int)(n i:Nat)(hi:i<n)(hz:∀j,j<n→0≤z j∧z j<256):byteOf (leF z n) i=z i:=by
 induction n with
 | zero=>omega
 | succ n ih=>
  have h:=leF_bd z n (fun j hj=>hz j (by omega))
  have hn:=hz n (by omega)
  by_cases hin:i=n
  ·subst hin
   have hp:(0:Int)<256 ^ i:=Int.pow_pos (by decide)
   simp only [leF,byteOf]
   rw [Int.add_mul_ediv_right _ _ (Int.ne_of_gt hp),Int.ediv_eq_zero_of_lt h.1 h.2]
   omega
  ·have hlt:i<n:=by omega
   have h2:=ih hlt (fun j hj=>hz j (by omega))
   have hp:(0:Int)<256 ^ i:=Int.pow_pos (by decide)
   simp only [leF,byteOf] at h2 ⊢
   obtain⟨d,rfl⟩:∃d,n=i+1+d:=⟨n-(i+1),by omega⟩
   have e:z (i+1+d)*256 ^ (i+1+d)=(256*(256 ^ d*z (i+1+d)))*256 ^ i:=by
    rw [Int.pow_add,Int.pow_succ]
    ac_rfl
   rw [e,Int.add_mul_ediv_right _ _ (Int.ne_of_gt hp),Int.add_mul_emod_self_left]
   exact h2
def zat (l:List Int)(i:Nat):Int:=l.getD i 0
def wordAt (b:List Int)(i:Nat):Int:=leF (fun j=>zat b (8*i+j)) 8
def wordsOf (b:List Int):List Int:=(List.range (b.length / 8)).map (wordAt b)
def bytes8 (w:Int):List Int:=(List.range 8).map (byteOf w)
def bytesOf (l:List Int):List Int:=l.flatMap bytes8
def Bts (b:List Int):Prop:=∀z∈b,0≤z∧z<256
def Wds (l:List Int):Prop:=∀z∈l,0≤z∧z<18446744073709551616
theorem zat_mem {l:List Int}{i:Nat}(h:i<l.length):zat l i∈l:=by
 rw [zat,List.getD_eq_getElem?_getD,List.getElem?_eq_getElem h]
 exact List.getElem_mem h
theorem zat_out {l:List Int}{i:Nat}(h:l.length≤i):zat l i=0:=by
 rw [zat,List.getD_eq_getElem?_getD,List.getElem?_eq_none h];rfl
theorem Bts.at {b:List Int}(h:Bts b)(i:Nat):0≤zat b i∧zat b i<256:=by
 by_cases hi:i<b.length
 ·exact h _ (zat_mem hi)
 ·rw [zat_out (by omega)];omega
theorem Wds.at {b:List Int}(h:Wds b)(i:Nat):0≤zat b i∧zat b i<18446744073709551616:=by
 by_cases hi:i<b.length
 ·exact h _ (zat_mem hi)
 ·rw [zat_out (by omega)];omega
theorem wordAt_bd {b:List Int}(h:Bts b)(i:Nat):0≤wordAt b i∧wordAt b i<18446744073709551616:=by
 have:=leF_bd (fun j=>zat b (8*i+j)) 8 (fun j _=>h.at _)
 unfold wordAt
 omega
theorem wordsOf_length (b:List Int):(wordsOf b).length=b.length / 8:=by simp [wordsOf]
theorem wordsOf_zat (b:List Int)(i:Nat)(h:i<b.length / 8):zat (wordsOf b) i=wordAt b i:=by
 simp [wordsOf,zat,List.getD_eq_getElem?_getD,h]
theorem wordsOf_wds {b:List Int}(h:Bts b):Wds (wordsOf b):=by
 intro z hz
 simp [wordsOf] at hz
 obtain⟨i,_,rfl⟩:=hz
 exact wordAt_bd h i
theorem bytes8_length (w:Int):(bytes8 w).length=8:=by simp [bytes8]
theorem bytesOf_cons (w:Int)(l:List Int):bytesOf (w::l)=bytes8 w++bytesOf l:=by simp [bytesOf]
theorem bytesOf_append (a b:List Int):bytesOf (a++b)=bytesOf a++bytesOf b:=by simp [bytesOf]
theorem bytesOf_one (w:Int):bytesOf [w]=bytes8 w:=by simp [bytesOf]
theorem bytesOf_length (l:List Int):(bytesOf l).length=8*l.length:=by
 induction l with
 | nil=>rfl
 | cons w l ih=>rw [bytesOf_cons,List.length_append,bytes8_length,ih,List.length_cons];omega
theorem bytes8_bts (w:Int):Bts (bytes8 w):=by
 intro z hz
 simp only [bytes8,List.mem_map] at hz
 obtain⟨i,_,rfl⟩:=hz
 exact byteOf_bd w i
theorem bytesOf_bts (l:List Int):Bts (bytesOf l):=by
 intro z hz
 simp only [bytesOf,List.mem_flatMap] at hz
 obtain⟨w,_,hz⟩:=hz
 exact bytes8_bts w z hz
theorem bytes8_zat (w:Int)(j:Nat)(h:j<8):zat (bytes8 w) j=byteOf w j:=by
 simp [bytes8,zat,List.getD_eq_getElem?_getD,h]
theorem zat_append_left (a b:List Int)(i:Nat)(h:i<a.length):zat (a++b) i=zat a i:=by
 simp [zat,List.getD_eq_getElem?_getD,List.getElem?_append_left h]
theorem zat_append_right (a b:List Int)(i:Nat)(h:a.length≤i):zat (a++b) i=zat b (i-a.length):=by
 simp [zat,List.getD_eq_getElem?_getD,List.getElem?_append_right h]
theorem bytesOf_zat (l:List Int)(i j:Nat)(hi:i<l.length)(hj:j<8):zat (bytesOf l) (8*i+j)=byteOf (zat l i) j:=by
 induction l generalizing i with
 | nil=>simp at hi
 | cons w l ih=>
  rw [bytesOf_cons]
  cases i with
  | zero=>
   rw [zat_append_left _ _ _ (by rw [bytes8_length];omega)]
   simpa [zat] using bytes8_zat w j hj
  | succ i=>
   rw [zat_append_right _ _ _ (by rw [bytes8_length];omega),bytes8_length]
   have e:8*(i+1)+j-8=8*i+j:=by omega
   rw [e,ih i (by simpa using hi)]
   simp [zat]
theorem ext_zat {a b:List Int}(hl:a.length=b.length)(h:∀i,i<a.length→zat a i=zat b i):a=b:=by
 apply List.ext_getElem hl
 intro i h1 h2
 have:=h i h1
 simpa [zat,List.getD_eq_getElem?_getD,h1,h2] using this
theorem wordAt_bytesOf (l:List Int)(h:Wds l)(i:Nat)(hi:i<l.length):wordAt (bytesOf l) i=zat l i:=by
 unfold wordAt
 rw [leF_congr (y:=byteOf (zat l i)) 8 (fun j hj=>bytesOf_zat l i j hi hj),leF_byteOf]
 have:=h.at i
 omega
theorem wordsOf_bytesOf (l:List Int)(h:Wds l):wordsOf (bytesOf l)=l:=by
 have hl:(wordsOf (bytesOf l)).length=l.length:=by rw [wordsOf_length,bytesOf_length];omega
 apply ext_zat hl
 intro i hi
 rw [hl] at hi
 rw [wordsOf_zat _ _ (by rw [bytesOf_length];omega),wordAt_bytesOf l h i hi]
theorem bytesOf_wordsOf (b:List Int)(h:Bts b)(h8:b.length % 8=0):bytesOf (wordsOf b)=b:=by
 have hl:(bytesOf (wordsOf b)).length=b.length:=by rw [bytesOf_length,wordsOf_length];omega
 apply ext_zat hl
 intro i hi
 rw [hl] at hi
 have e:i=8*(i / 8)+i % 8:=by omega
 rw [e,bytesOf_zat _ _ _ (by rw [wordsOf_length];omega) (by omega),wordsOf_zat _ _ (by omega)]
 unfold wordAt
 rw [byteOf_leF _ 8 _ (by omega) (fun j _=>h.at _)]
theorem zat_set (l:List Int)(i j:Nat)(x:Int)(hi:i<l.length):zat (l.set i x) j=if i=j then x else zat l j:=by
 simp only [zat,List.getD_eq_getElem?_getD,List.getElem?_set]
 by_cases h:i=j
 ·subst h;simp [hi]
 ·simp [h]
theorem zat_take (l:List Int)(n j:Nat)(h:j<n):zat (l.take n) j=zat l j:=by
 simp [zat,List.getD_eq_getElem?_getD,h]
theorem zat_drop (l:List Int)(n j:Nat):zat (l.drop n) j=zat l (n+j):=by
 simp [zat,List.getD_eq_getElem?_getD]
theorem zat_replicate (n j:Nat):zat (List.replicate n 0) j=0:=by
 by_cases h:j<n<;>simp [zat,List.getD_eq_getElem?_getD,h]
def splice (zs:List Int)(o:Nat)(ys:List Int):List Int:=zs.take o++ys++zs.drop (o+ys.length)
theorem bytesOf_take_succ (l:List Int)(i:Nat)(h:i<l.length):bytesOf (l.take (i+1))=bytesOf (l.take i)++bytes8 (zat l i):=by
 have e:l.take (i+1)=l.take i++[zat l i]:=by
  rw [List.take_succ_eq_append_getElem h]
  simp [zat,List.getD_eq_getElem?_getD,h]
 rw [e,bytesOf_append,bytesOf_one]
theorem Bts.splice {zs ys:List Int}{o:Nat}(h1:Bts zs)(h2:Bts ys):Bts (splice zs o ys):=by
 intro z hz
 simp only [Go.Proofs.YtfaflahfjgnphaaGreatDoor.splice,List.mem_append] at hz
 rcases hz with (hz|hz)|hz
 ·exact h1 z (List.mem_of_mem_take hz)
 ·exact h2 z hz
 ·exact h1 z (List.mem_of_mem_drop hz)
theorem leF_first (z:Nat→Int)(n:Nat):leF z (n+1)=leF (fun j=>z (j+1)) n*256+z 0:=by
 induction n with
 | zero=>simp [leF]
 | succ n ih=>
  rw [leF,ih]
  simp only [leF]
  rw [Int.pow_succ,Int.add_mul,Int.mul_assoc]
  omega
theorem take_succ_zat (l:List Int)(k:Nat)(h:k<l.length):l.take (k+1)=l.take k++[zat l k]:=by
 rw [List.take_succ_eq_append_getElem h]
 simp [zat,List.getD_eq_getElem?_getD,h]
section
def Ri (w:World)(k:IntKind)(A:Option Addr)(zs:List Int):Prop:=
 zs=[]∨∃b off,A=some ⟨b,off,none⟩∧∀j,j<zs.length→w.cell? ⟨b,off+j,none⟩=some (.int k (zat zs j))
section
variable {w w':World} {k:IntKind} {A:Option Addr} {zs:List Int}
theorem Ri.nil (w:World)(k:IntKind)(A:Option Addr):Ri w k A []:=.inl rfl
theorem Ri.at (h:Ri w k A zs){i:Nat}(hi:i<zs.length):
  ∃b off,A=some ⟨b,off,none⟩∧∀j,j<zs.length→w.cell? ⟨b,off+j,none⟩=some (.int k (zat zs j)):=by
 rcases h with rfl|h
 ·simp at hi
 ·exact h
theorem Ri.below (h:Ri w k A zs){B:Nat}(hb:Below B w w')(hB:w.heap.size≤B):Ri w' k A zs:=by
 rcases h with rfl|⟨b,off,rfl,h⟩
 ·exact .inl rfl
 ·by_cases h0:0<zs.length
  ·have hlt:b<w.heap.size:=World.block_lt_of_cell? w ⟨b,off+0,none⟩ (h 0 h0)
   exact .inr ⟨b,off,rfl,fun j hj=>(hb.cell (p:=⟨b,off+j,none⟩) (by show b<B;omega)).trans (h j hj)⟩
  ·exact .inl (List.eq_nil_of_length_eq_zero (by omega))
theorem Ri.drop (h:Ri w k A zs){b off n:Nat}(hA:A=some ⟨b,off,none⟩):Ri w k (some ⟨b,off+n,none⟩) (zs.drop n):=by
 rcases h with rfl|⟨b',off',hA',h⟩
 ·simp;exact .inl rfl
 ·subst hA
  injection hA' with e
  injection e with e1 e2
  subst e1
  subst e2
  refine .inr ⟨b,off+n,rfl,fun j hj=>?_⟩
  rw [List.length_drop] at hj
  have:=h (n+j) (by omega)
  rw [Nat.add_assoc,this]
  simp [zat,List.getD_eq_getElem?_getD]
theorem Ri.take (h:Ri w k A zs)(n:Nat):Ri w k A (zs.take n):=by
 rcases h with rfl|⟨b,off,hA,h⟩
 ·simp;exact .inl rfl
 ·refine .inr ⟨b,off,hA,fun j hj=>?_⟩
  rw [List.length_take] at hj
  rw [h j (by omega)]
  simp [zat,List.getD_eq_getElem?_getD,show j<n by omega]
end
def Got (w:World)(base:Nat)(E:TypeId)(k:IntKind)(v:Value)(zs:List Int):Prop:=w.ownsRow base E 1 v zs.length (zs.map (Value.int k))
section
variable {w w':World} {base B:Nat} {E:TypeId} {k:IntKind} {v:Value} {zs:List Int}
theorem Got.empty (w:World)(base:Nat)(E:TypeId)(k:IntKind):Got w base E k (.slice none 0 0) []:=World.ownsRow_nil w base E 1
theorem Got.lt (h:Got w base E k v zs):∀g,v.ownBlock=some g→base≤g∧g<w.heap.size:=World.ownsRow.lt h
theorem Got.below (h:Got w base E k v zs)(hb:Below B w w')(hB:w.heap.size≤B):Got w' base E k v zs:=by
 obtain⟨h1,h2⟩:=h
 refine⟨h1,?_⟩
 rcases h2 with h2|⟨g,cap,cur,hv,hg,hh,r⟩
 ·exact .inl h2
 ·refine .inr ⟨g,cap,cur,hv,hg,?_,r⟩
  have hlt:g<w.heap.size:=by
   rcases Nat.lt_or_ge g w.heap.size with hlt|hge
   ·exact hlt
   ·rw [Array.getElem?_eq_none hge] at hh;cases hh
  rw [hb.block g (by omega)]
  exact hh
theorem Got.mono (h:Got w base E k v zs){base':Nat}(hb:base'≤base):Got w base' E k v zs:=by
 obtain⟨h1,h2⟩:=h
 refine⟨h1,?_⟩
 rcases h2 with h2|⟨g,cap,cur,hv,hg,r⟩
 ·exact .inl h2
 ·exact .inr ⟨g,cap,cur,hv,by omega,r⟩
theorem Got.slice (h:Got w base E k v zs):∃A cap,v=.slice A zs.length cap∧zs.length≤cap∧cap≤maxLen∧Ri w k A zs:=by
 have h0:=h
 obtain⟨h1,h2⟩:=h
 rcases h2 with ⟨rfl,hn⟩|⟨g,cap,cur,rfl,hg,hh,hc,hm,hs,ht⟩
 ·have hz:zs=[]:=List.eq_nil_of_length_eq_zero hn
  subst hz
  exact⟨none,0,rfl,Nat.le_refl _,Nat.zero_le _,.inl rfl⟩
 ·refine⟨some ⟨g,0,none⟩,cap,rfl,hc,hm,.inr ⟨g,0,rfl,fun j hj=>?_⟩⟩
  have:=World.ownsRow.cellAt (g:=g) (cap:=cap) h0 j (by omega)
  rw [Nat.zero_add,this]
  simp [zat,List.getD_eq_getElem?_getD,hj]
theorem Got.put {g cap:Nat}(h:Got w base E k (.slice (some ⟨g,0,none⟩) zs.length cap) zs)(j:Nat)(x:Int):
  Got (w.setCell ⟨g,j,none⟩ (.int k x)) base E k (.slice (some ⟨g,0,none⟩) zs.length cap) (zs.set j x):=by
 have:=(World.ownsRow.stored h j (.int k x)).1
 unfold Got
 simpa [List.map_set] using this
theorem Got.cell {g cap:Nat}(h:Got w base E k (.slice (some ⟨g,0,none⟩) zs.length cap) zs)(j:Nat)(hj:j<zs.length):
  w.cell? ⟨g,j,none⟩=some (.int k (zat zs j)):=by
 rw [World.ownsRow.cellAt h j (by omega)]
 simp [zat,List.getD_eq_getElem?_getD,hj]
theorem Got.free {g cap:Nat}(h:Got w base E k (.slice (some ⟨g,0,none⟩) zs.length cap) zs)(j:Nat):w.frozen? ⟨g,j,none⟩=false:=
 World.ownsRow.frozenAt h j
theorem got_made {g n:Nat}(h:w.ownsRow base E 1 (.slice (some ⟨g,0,none⟩) n n) n (madeCells (Value.int k 0).cells (n*1)).toList):
  Got w base E k (.slice (some ⟨g,0,none⟩) n n) (List.replicate n 0):=by
 have e:(madeCells (Value.int k 0).cells (n*1)).toList=(List.replicate n (0:Int)).map (Value.int k):=by
  rw [Nat.mul_one,List.map_replicate]
  exact toList_madeCells_one _ _
 rw [e] at h
 unfold Got
 rw [List.length_replicate]
 exact h
theorem Got.cast {v':Value}{zs':List Int}(h:Got w base E k v zs)(hv:v=v')(hz:zs=zs'):Got w base E k v' zs':=by
 subst hv;subst hz;exact h
end
theorem wpList_app1 {P:Program}{ops:Array Oper}{rest:List Oper}{o:Oper}{a:Act}{Q:Exit→Act→World→Prop}{w:World}(hgd:o.guard=none)(s x:Operand)(t:TypeId)
  (ho:o.op=.call { callee:=.builtin .append,args:=#[s,x],argTypes:=#[t,t] })
  {base:Nat} {e:TypeId} {i:TypeInfo} {k:IntKind} {bytes:Nat} (ht:P.underlying t=some (.slice e)) (hi:P.info? e=some i) (hz:i.zero=some (.int k 0)) (hsize:i.size=1) (hby:i.bytes=bytes)
  {v:Value} {zs:List Int} {y:Int} (hs:a.eval s=v) (hown:Got w base e k v zs) {T:TypeId} (hx:a.eval x=.slice (some ⟨w.heap.size,0,none⟩) 1 1)
  (h63:zs.length+1≤maxLen) (hbytes:(zs.length+1)*bytes≤140737488355328) (hbase:base≤w.heap.size)
  (h:∀v' w',Got w' base e k v' (zs++[y])→Below base w w'→wpList P ops Q rest (a.put o.dst v') w'):wpList P ops Q (o::rest) a (w.alloc (.cells #[.int k y] T)):=by
 refine wpList_append_own _ hgd s x t ho base e i (.int k 0) 1 bytes ht hi hz hsize hby rfl (by decide) v zs.length (zs.map (Value.int k)) hs (hown.alloc _)
  ⟨w.heap.size,0,none⟩ 1 1 [.int k y] hx rfl ?_ ?_ h63 hbytes (by simp;omega) ?_
 ·intro j u hj
  cases j with
  | zero=>simp at hj;subst hj;simp [Addr.add]
  | succ j=>simp at hj
 ·intro u hu
  simp at hu
  subst hu
  rfl
 ·intro v' w' h1 h2 _
  refine h v' w' ?_ ?_
  ·unfold Got
   simpa using h1
  ·exact((Below.refl base w).alloc hbase _).grown h2 (by simp;omega) (fun g hg=>(hown.lt g hg).1)
theorem Ri.alloc {w:World}{k:IntKind}{A:Option Addr}{zs:List Int}(h:Ri w k A zs)(o:Obj):Ri (w.alloc o) k A zs:=
 h.below ((Below.refl _ _).alloc (Nat.le_refl _) o) (Nat.le_refl _)
theorem Ri.drew {w:World}{k:IntKind}{A:Option Addr}{zs:List Int}(h:Ri w k A zs):Ri w.drew k A zs:=h
theorem Ri.drewN {w:World}{k:IntKind}{A:Option Addr}{zs:List Int}(h:Ri w k A zs)(n:Nat):Ri (w.drewN n) k A zs:=h
theorem Ri.lit (w:World)(k:IntKind)(zs:List Int)(T:TypeId):Ri (w.alloc (.cells (zs.map (Value.int k)).toArray T)) k (some ⟨w.heap.size,0,none⟩) zs:=by
 refine .inr ⟨w.heap.size,0,rfl,fun j hj=>?_⟩
 rw [World.cell?_alloc_new]
 simp [zat,List.getD_eq_getElem?_getD,hj]
theorem bel_drewN {B:Nat}{a w:World}(h:Below B a w)(n:Nat):Below B a (w.drewN n):=⟨h.os,h.tape,h.output,h.size,h.block⟩
theorem bel_on {a b c:World}(h:Below a.heap.size a b)(k:Below b.heap.size b c):Below a.heap.size a c:=h.trans (k.mono h.size)
theorem add_plain (b off j:Nat):(⟨b,off,none⟩:Addr).add j=⟨b,off+j,none⟩:=by
 by_cases h:j=0
 ·subst h;simp [Addr.add]
 ·simp [Addr.add,h]
theorem wpList_appN {P:Program}{ops:Array Oper}{rest:List Oper}{o:Oper}{a:Act}{Q:Exit→Act→World→Prop}{w:World}(hgd:o.guard=none)(s x:Operand)(t:TypeId)
  (ho:o.op=.call { callee:=.builtin .append,args:=#[s,x],argTypes:=#[t,t] })
  {base:Nat} {e:TypeId} {i:TypeInfo} {k:IntKind} {bytes:Nat} (ht:P.underlying t=some (.slice e)) (hi:P.info? e=some i) (hz:i.zero=some (.int k 0)) (hsize:i.size=1) (hby:i.bytes=bytes)
  {v:Value} {zs ys:List Int} {A:Option Addr} {c:Nat} (hs:a.eval s=v) (hown:Got w base e k v zs) (hx:a.eval x=.slice A ys.length c) (hr:Ri w k A ys) (hc:A=none→c=0)
  (h63:zs.length+ys.length≤maxLen) (hbytes:(zs.length+ys.length)*bytes≤140737488355328) (hbase:base≤w.heap.size)
  (h:∀v' w',Got w' base e k v' (zs++ys)→Below base w w'→wpList P ops Q rest (a.put o.dst v') w'):wpList P ops Q (o::rest) a w:=by
 cases A with
 | none=>
  have hy:ys=[]:=by
   rcases hr with h0|⟨b,off,h0,_⟩
   ·exact h0
   ·cases h0
  subst hy
  obtain rfl:=hc rfl
  exact wpList_append_own_none hgd s x t ho base e i 1 ht hi v zs.length _ hs hown hx (h v w (by simpa using hown) (Below.refl _ _))
 | some ad=>
  refine wpList_append_own _ hgd s x t ho base e i (.int k 0) 1 bytes ht hi hz hsize hby rfl (by decide) v zs.length (zs.map (Value.int k)) hs hown
   ad ys.length c (ys.map (Value.int k)) hx (by simp) ?_ ?_ h63 hbytes hbase ?_
  ·intro j u hj
   rcases hr with rfl|⟨b,off,h0,hcell⟩
   ·simp at hj
   ·injection h0 with h0
    subst h0
    have hlt:j<ys.length:=by
     rcases Nat.lt_or_ge j ys.length with h1|h1
     ·exact h1
     ·rw [List.getElem?_eq_none (by simpa using h1)] at hj;cases hj
    have h2:=hcell j hlt
    have e1:(⟨b,off,none⟩:Addr).add j=⟨b,off+j,none⟩:=add_plain b off j
    rw [e1,h2]
    simp [hlt] at hj
    subst hj
    simp [zat,List.getD_eq_getElem?_getD,hlt]
  ·intro u hu
   simp at hu
   obtain⟨z,_,rfl⟩:=hu
   rfl
  ·intro v' w' h1 h2 _
   refine h v' w' ?_ ?_
   ·unfold Got
    simpa using h1
   ·exact(Below.refl base w).grown h2 hbase (fun g hg=>(hown.lt g hg).1)
theorem wpList_appNn {P:Program}{ops:Array Oper}{rest:List Oper}{o:Oper}{a:Act}{Q:Exit→Act→World→Prop}{w:World}(n:Nat)(hgd:o.guard=none)(s x:Operand)(t:TypeId)
  (ho:o.op=.call { callee:=.builtin .append,args:=#[s,x],argTypes:=#[t,t] })
  {base:Nat} {e:TypeId} {i:TypeInfo} {k:IntKind} {bytes:Nat} (ht:P.underlying t=some (.slice e)) (hi:P.info? e=some i) (hz:i.zero=some (.int k 0)) (hsize:i.size=1) (hby:i.bytes=bytes)
  {v:Value} {zs ys:List Int} {A:Option Addr} {c:Nat} (hn:n=ys.length) (hs:a.eval s=v) (hown:Got w base e k v zs) (hx:a.eval x=.slice A n c) (hr:Ri w k A ys) (hc:A=none→c=0)
  (h63:zs.length+n≤maxLen) (hbytes:(zs.length+n)*bytes≤140737488355328) (hbase:base≤w.heap.size)
  (h:∀v' w',Got w' base e k v' (zs++ys)→Below base w w'→wpList P ops Q rest (a.put o.dst v') w'):wpList P ops Q (o::rest) a w:=by
 subst hn
 exact wpList_appN hgd s x t ho ht hi hz hsize hby hs hown hx hr hc h63 hbytes hbase h
theorem Got.empty_made (w:World){base:Nat}(E:TypeId)(k:IntKind)(hb:base≤w.heap.size):Got (w.alloc (.cells #[] E)) base E k (.slice (some ⟨w.heap.size,0,none⟩) 0 0) []:=
 World.ownsRow_made w #[] 0 hb (Nat.zero_le _) rfl
theorem Got.far {w:World}{base:Nat}{E:TypeId}{k:IntKind}{v:Value}{zs:List Int}(h:Got w base E k v zs){p:Addr}(hp:p.block<base)(u:Value):Got (w.setCell p u) base E k v zs:=
 ownsRow_setCell_below h hp u
theorem Got.addr {w:World}{base:Nat}{E:TypeId}{k:IntKind}{A:Option Addr}{n c:Nat}{zs:List Int}(h:Got w base E k (.slice A n c) zs)(h0:0<n):
  ∃g,A=some ⟨g,0,none⟩∧base≤g∧g<w.heap.size∧n=zs.length:=by
 have hl:=h.lt
 rcases h.2 with ⟨h1,h2⟩|⟨g,cap,cur,h1,hg,hh,_⟩
 ·injection h1 with h3 h4
  omega
 ·injection h1 with h3 h4
  subst h3
  exact⟨g,rfl,hg,(hl g rfl).2,h4⟩
theorem Got.ri {w:World}{base:Nat}{E:TypeId}{k:IntKind}{A:Option Addr}{n c:Nat}{zs:List Int}(h:Got w base E k (.slice A n c) zs):Ri w k A zs∧n=zs.length:=by
 obtain⟨A',c',hv,_,_,hr⟩:=h.slice
 injection hv with h1 h2 h3
 subst h1
 exact⟨hr,h2⟩
theorem Got.full {w:World}{base:Nat}{E:TypeId}{k:IntKind}{v:Value}{zs:List Int}(h:Got w base E k v zs):∃A cap,v=.slice A zs.length cap∧zs.length≤cap∧cap≤maxLen∧Ri w k A zs∧(A=none→cap=0):=by
 obtain⟨A,c,h1,h2,h3,h4⟩:=h.slice
 refine⟨A,c,h1,h2,h3,h4,fun hA=>?_⟩
 subst hA
 rcases h.2 with ⟨hv,hn⟩|⟨g,cap,cur,hv,_⟩
 ·rw [h1] at hv
  injection hv
 ·rw [h1] at hv
  injection hv with e
  cases e
end
theorem lowBits_any (n:Int)(w:World)(h1:1≤n)(h2:n≤64):
  Calls Tryz.prog 100 #[.int .i64 n] w fun e w'=>e=.returned (.int .u64 (18446744073709551615 / 2 ^ (64-n).toNat))∧w=w':=by
 go_enter Tryz.func100,Tryz.ntmps100
 go_wp2
 go_ret
 exact⟨rfl,rfl⟩
theorem Field_any (x a n:Int)(w:World)(h1:1≤n)(h2:0≤a)(h3:a+n≤64)(h5:0≤x)(h6:x<18446744073709551616):
  Calls Tryz.prog 76 #[.int .u64 x,.int .i64 a,.int .i64 n] w fun e w'=>e=.returned (.int .u64 (fld x a n))∧w=w':=by
 have HF:=Lib.hid (fld_go x a n (by omega) (by omega) h5 h6)
 go_enter Tryz.func76,Tryz.ntmps76
 go_wp2_with (go_at_call 100;refine(lowBits_any _ _ (by omega) (by omega)).mono ?_;rintro e w' ⟨rfl,rfl⟩)
 go_ret
 exact⟨congrArg (fun z=>Ending.returned (.int .u64 z)) HF.out,rfl⟩
theorem Signed_any (x a n:Int)(w:World)(h1:1≤n)(h2:0≤a)(h3:a+n≤64)(h5:0≤x)(h6:x<18446744073709551616):
  Calls Tryz.prog 126 #[.int .u64 x,.int .i64 a,.int .i64 n] w fun e w'=>e=.returned (.int .i64 (sgn x a n))∧w=w':=by
 have hb:=fld_bd x a n (by omega)
 have HF:=Lib.hid (sgn_go x a n h1 (by omega))
 go_enter Tryz.func126,Tryz.ntmps126
 go_wp2_with (go_at_call 76;refine(Field_any _ _ _ _ h1 h2 h3 h5 h6).mono ?_;rintro e w' ⟨rfl,rfl⟩)
 go_ret
 exact⟨congrArg (fun z=>Ending.returned (.int .i64 z)) HF.out,rfl⟩
def hasW (b:List Int)(i:Int):Bool:=decide (0≤i∧i<(b.length / 8:Nat))
def getW (b:List Int)(i:Int):Int:=if hasW b i then wordAt b i.toNat else 0
theorem int8_info:(Tryz.prog.info? 5).map (fun i=>(i.zero,i.size,i.bytes))=some (some (.int .u8 0),1,1):=by kernel_rfl
theorem int64_info:(Tryz.prog.info? 39).map (fun i=>(i.zero,i.size,i.bytes))=some (some (.int .u64 0),1,8):=by kernel_rfl
def sameB (a b:List Int):Bool:=decide (a=b)
theorem sameB_no (a b:List Int)(k:Nat)(h:zat a k≠zat b k):sameB a b=false:=by
 unfold sameB
 simp
 rintro rfl
 exact h rfl
theorem sameB_len (a b:List Int)(h:a.length≠b.length):sameB a b=false:=by
 unfold sameB
 simp
 rintro rfl
 exact h rfl
theorem sameB_yes (a b:List Int)(hl:a.length=b.length)(h:∀i,i<a.length→zat a i=zat b i):sameB a b=true:=by
 unfold sameB
 simp [ext_zat hl h]
theorem sameB_self (a:List Int):sameB a a=true:=by simp [sameB]
theorem Same_any (A B:Option Addr)(c d:Nat)(a b:List Int)(w:World)(ha:Ri w .u8 A a)(hb:Ri w .u8 B b)(hm:a.length≤9223372036854775807)(hm2:b.length≤9223372036854775807):
  Calls Tryz.prog 37 #[.slice A a.length c,.slice B b.length d] w fun e w'=>e=.returned (.bool (sameB a b))∧∃m,w'=w.drewN m:=by
 have Ha:=Lib.hid ha
 have Hb:=Lib.hid hb
 clear ha hb
 by_cases hl:a.length=b.length
 ·have HL:=Lib.hid hl
  have hlen:((a.length:Int) != (b.length:Int))=false:=by simp [hl]
  have hlen2:((a.length:Int)==(b.length:Int))=true:=by simp [hl]
  clear hl
  go_enter Tryz.func37,Tryz.ntmps37
  go_wp2
  go_loopw [5] (fun i wr=>∃k:Nat,k≤a.length∧i=.int .i64 k∧(∀j,j<k→zat a j=zat b j)∧∃m,wr=w.drewN m) (fun i _=>a.length-(intOf i).toNat)
  case atStart=>exact⟨0,by omega,rfl,by intro j hj;omega,0,rfl⟩
  case round=>
   obtain⟨k,hk,rfl,hsame,m,rfl⟩:=hrel
   have HS:=Lib.hid hsame
   clear hsame
   by_cases hlt:k<a.length
   ·obtain⟨g,off,rfl,hc1⟩:=Ha.out.at hlt
    have hc1k:=hc1 k hlt
    have hltb:k<b.length:=by rw [←HL.out];exact hlt
    obtain⟨g',off',rfl,hc2⟩:=Hb.out.at hltb
    have hc2k:=hc2 k hltb
    clear hc1 hc2
    have hi1:(k:Int)<(a.length:Int):=by omega
    have hi2:(k:Int)<(b.length:Int):=by omega
    by_cases hz:zat a k=zat b k
    ·have hz1:(zat a k != zat b k)=false:=by simp [hz]
     have hz2:(zat a k==zat b k)=true:=by simp [hz]
     have HZ:=Lib.hid hz
     clear hz
     go_wp2
     go_quiet (fail)
     go_wp2
     go_roundw
     case rel=>exact⟨k+1,by omega,by go_num,fun j hj=>by
      by_cases e:j=k
      ·subst e;exact HZ.out
      ·exact HS.out j (by omega),_,rfl⟩
     case measure=>simp [intOf];omega
    ·have hz1:(zat a k != zat b k)=true:=by simp [hz]
     have hz2:(zat a k==zat b k)=false:=by simp [hz]
     have HZ:=Lib.hid hz
     clear hz
     go_wp2
     go_quiet (fail)
     go_wp2
     go_ret
     exact⟨by rw [sameB_no a b k HZ.out];rfl,_,World.drewN_drewN _ _ _⟩
   ·obtain rfl:k=a.length:=by omega
    go_wp2
    go_ret
    exact⟨by rw [sameB_yes a b HL.out HS.out];rfl,_,rfl⟩
 ·have HL:=Lib.hid (sameB_len a b hl)
  have hlen:((a.length:Int) != (b.length:Int))=true:=by simp;omega
  have hlen2:((a.length:Int)==(b.length:Int))=false:=by simp;omega
  clear hl
  go_enter Tryz.func37,Tryz.ntmps37
  go_wp2
  go_ret
  exact⟨by rw [HL.out];rfl,0,rfl⟩
theorem SameWords_any (A B:Option Addr)(c d:Nat)(a b:List Int)(w:World)(ha:Ri w .u64 A a)(hb:Ri w .u64 B b)(hm:a.length≤9223372036854775807)(hm2:b.length≤9223372036854775807):
  Calls Tryz.prog 22 #[.slice A a.length c,.slice B b.length d] w fun e w'=>e=.returned (.bool (sameB a b))∧∃m,w'=w.drewN m:=by
 have Ha:=Lib.hid ha
 have Hb:=Lib.hid hb
 clear ha hb
 by_cases hl:a.length=b.length
 ·have HL:=Lib.hid hl
  have hlen:((a.length:Int) != (b.length:Int))=false:=by simp [hl]
  have hlen2:((a.length:Int)==(b.length:Int))=true:=by simp [hl]
  clear hl
  go_enter Tryz.func22,Tryz.ntmps22
  go_wp2
  go_loopw [5] (fun i wr=>∃k:Nat,k≤a.length∧i=.int .i64 k∧(∀j,j<k→zat a j=zat b j)∧∃m,wr=w.drewN m) (fun i _=>a.length-(intOf i).toNat)
  case atStart=>exact⟨0,by omega,rfl,by intro j hj;omega,0,rfl⟩
  case round=>
   obtain⟨k,hk,rfl,hsame,m,rfl⟩:=hrel
   have HS:=Lib.hid hsame
   clear hsame
   by_cases hlt:k<a.length
   ·obtain⟨g,off,rfl,hc1⟩:=Ha.out.at hlt
    have hc1k:=hc1 k hlt
    have hltb:k<b.length:=by rw [←HL.out];exact hlt
    obtain⟨g',off',rfl,hc2⟩:=Hb.out.at hltb
    have hc2k:=hc2 k hltb
    clear hc1 hc2
    have hi1:(k:Int)<(a.length:Int):=by omega
    have hi2:(k:Int)<(b.length:Int):=by omega
    by_cases hz:zat a k=zat b k
    ·have hz1:(zat a k != zat b k)=false:=by simp [hz]
     have hz2:(zat a k==zat b k)=true:=by simp [hz]
     have HZ:=Lib.hid hz
     clear hz
     go_wp2
     go_quiet (fail)
     go_wp2
     go_roundw
     case rel=>exact⟨k+1,by omega,by go_num,fun j hj=>by
      by_cases e:j=k
      ·subst e;exact HZ.out
      ·exact HS.out j (by omega),_,rfl⟩
     case measure=>simp [intOf];omega
    ·have hz1:(zat a k != zat b k)=true:=by simp [hz]
     have hz2:(zat a k==zat b k)=false:=by simp [hz]
     have HZ:=Lib.hid hz
     clear hz
     go_wp2
     go_quiet (fail)
     go_wp2
     go_ret
     exact⟨by rw [sameB_no a b k HZ.out];rfl,_,World.drewN_drewN _ _ _⟩
   ·obtain rfl:k=a.length:=by omega
    go_wp2
    go_ret
    exact⟨by rw [sameB_yes a b HL.out HS.out];rfl,_,rfl⟩
 ·have HL:=Lib.hid (sameB_len a b hl)
  have hlen:((a.length:Int) != (b.length:Int))=true:=by simp;omega
  have hlen2:((a.length:Int)==(b.length:Int))=false:=by simp;omega
  clear hl
  go_enter Tryz.func22,Tryz.ntmps22
  go_wp2
  go_ret
  exact⟨by rw [HL.out];rfl,0,rfl⟩
def p2 (n:Int):Int:=2 ^ n.toNat
theorem p2_pos (n:Int):1≤p2 n:=by
 have:(0:Int)<2 ^ n.toNat:=Int.pow_pos (by decide)
 unfold p2;omega
theorem p2_bd (n:Int)(h:n≤63):p2 n≤9223372036854775808:=by
 have:=Nat.pow_le_pow_right (n:=2) (by decide) (show n.toNat≤63 by omega)
 have e:(2:Int) ^ n.toNat=((2 ^ n.toNat:Nat):Int):=by simp
 unfold p2
 rw [e];omega
theorem p2_succ (k:Nat):p2 ((k:Int)+1)=p2 k*2:=by
 unfold p2
 rw [show ((k:Int)+1).toNat=k+1 by omega,Int.toNat_natCast,Int.pow_succ]
theorem Pow_any (n:Int)(w:World)(h0:0≤n)(h1:n≤63):
  Calls Tryz.prog 123 #[.int .i64 n] w fun e w'=>e=.returned (.int .u64 (p2 n))∧w=w':=by
 obtain⟨m,rfl⟩:=Int.eq_ofNat_of_zero_le h0
 go_enter Tryz.func123,Tryz.ntmps123
 go_wp2
 go_loop [3,4] (fun p i=>∃k:Nat,k≤m∧i=.int .i64 k∧p=.int .u64 (p2 k)) (fun _ i=>m-(intOf i).toNat)
 case atStart=>exact⟨0,by omega,rfl,rfl⟩
 case round=>
  obtain⟨k,hk,rfl,rfl⟩:=hrel
  by_cases hlt:k<m
  ·have hp:=p2_pos k
   have hb:=p2_bd ((k:Int)+1) (by omega)
   have HS:=Lib.hid (p2_succ k)
   rw [HS.out] at hb
   go_wp2
   go_round
   case rel=>exact⟨k+1,by omega,by go_num,by rw [←HS.out];go_num⟩
   case measure=>simp [intOf];omega
  ·obtain rfl:k=m:=by omega
   go_wp2
   go_ret
   exact⟨rfl,rfl⟩
theorem fld_zero (x a:Int):fld x a 0=0:=by simp [fld,fldN,Nat.mod_one]
theorem fld_succ (x a:Int)(k:Nat)(hx:0≤x)(ha:0≤a):fld x a ((k:Int)+1)=fld x a k+x / p2 (a+k) % 2*p2 k:=by
 obtain⟨X,rfl⟩:=Int.eq_ofNat_of_zero_le hx
 obtain⟨A,rfl⟩:=Int.eq_ofNat_of_zero_le ha
 unfold fld p2
 rw [show ((k:Int)+1).toNat=k+1 by omega,show ((A:Int)+k).toNat=A+k by omega]
 simp only [Int.toNat_natCast]
 rw [fldN_step]
 simp
theorem quo_bd (x n:Int)(h5:0≤x)(h6:x<18446744073709551616):0≤x / p2 n∧x / p2 n<18446744073709551616:=by
 have hp:=p2_pos n
 have h1:=Int.ediv_nonneg h5 (by omega:0≤p2 n)
 have h2:=Int.ediv_le_self (p2 n) h5
 omega
theorem RefField_any (x a n:Int)(w:World)(h1:1≤n)(h2:0≤a)(h3:a+n≤64)(h5:0≤x)(h6:x<18446744073709551616):
  Calls Tryz.prog 108 #[.int .u64 x,.int .i64 a,.int .i64 n] w fun e w'=>e=.returned (.int .u64 (fld x a n))∧w=w':=by
 obtain⟨m,rfl⟩:=Int.eq_ofNat_of_zero_le (by omega:0≤n)
 go_enter Tryz.func108,Tryz.ntmps108
 go_wp2
 go_loop [7,8] (fun v i=>∃k:Nat,k≤m∧i=.int .i64 k∧v=.int .u64 (fld x a k)) (fun _ i=>m-(intOf i).toNat)
 case atStart=>exact⟨0,by omega,rfl,by rw [show ((0:Nat):Int)=0 from rfl,fld_zero]⟩
 case round=>
  obtain⟨k,hk,rfl,rfl⟩:=hrel
  by_cases hlt:k<m
  ·have hp:=p2_pos (a+k)
   have hp2:=p2_pos k
   have hq:=quo_bd x (a+k) h5 h6
   have hb:=fld_bd x a k (by omega)
   have hb1:=fld_bd x a (k+1) (by omega)
   have hs:=fld_succ x a k h5 h2
   by_cases hbit:x / p2 (a+k) % 2=1
   ·rw [hbit,Int.one_mul] at hs
    rw [hs] at hb1
    have t1:(x / p2 (a+k) % 2==1)=true:=by simp [hbit]
    have HS:=Lib.hid hs
    clear hs hbit
    go_wp2_with (go_at_call 123;refine(Pow_any _ _ (by omega) (by omega)).mono ?_;rintro e w' ⟨rfl,rfl⟩)
    go_round
    case rel=>exact⟨k+1,by omega,by go_num,by rw [←HS.out];go_num⟩
    case measure=>simp [intOf];omega
   ·have hbit0:x / p2 (a+k) % 2=0:=by omega
    rw [hbit0,Int.zero_mul,Int.add_zero] at hs
    have t1:(x / p2 (a+k) % 2==1)=false:=by simp [hbit0]
    have HS:=Lib.hid hs
    clear hs hbit hbit0
    go_wp2_with (go_at_call 123;refine(Pow_any _ _ (by omega) (by omega)).mono ?_;rintro e w' ⟨rfl,rfl⟩)
    go_round
    case rel=>exact⟨k+1,by omega,by go_num,by rw [←HS.out];go_num⟩
    case measure=>simp [intOf];omega
  ·obtain rfl:k=m:=by omega
   go_wp2
   go_ret
   exact⟨rfl,rfl⟩
theorem sgn_ref (x a n:Int)(h:1≤n):sgn x a n=if p2 (n-1)≤fld x a n then fld x a n-p2 (n-1)-p2 (n-1) else fld x a n:=by
 obtain⟨m,rfl⟩:∃m:Nat,n=(m:Int)+1:=⟨(n-1).toNat,by omega⟩
 unfold sgn p2
 rw [show ((m:Int)+1).toNat=m+1 by omega,show ((m:Int)+1-1).toNat=m by omega,show m+1-1=m by omega,Int.pow_succ]
 split<;>omega
theorem sgn_yes (x a n:Int)(h:1≤n)(hc:p2 (n-1)≤fld x a n):fld x a n-p2 (n-1)-p2 (n-1)=sgn x a n:=by rw [sgn_ref x a n h,if_pos hc]
theorem sgn_no (x a n:Int)(h:1≤n)(hc:¬p2 (n-1)≤fld x a n):fld x a n=sgn x a n:=by rw [sgn_ref x a n h,if_neg hc]
theorem sgn_64 (x a:Int):wrap64 (fld x a 64)=sgn x a 64:=by
 have h0:=fld_bd x a 64 (by omega)
 rw [sgn_ref x a 64 (by omega)]
 have e:p2 (64-1)=9223372036854775808:=by decide
 rw [e]
 unfold wrap64
 split<;>omega
theorem fld_lt63 (x a n:Int)(h:n≤63):fld x a n<9223372036854775808:=by
 have h1:=fld_lt x a n
 have h2:=p2_bd n h
 unfold p2 at h2
 omega
theorem RefSigned_any (x a n:Int)(w:World)(h1:1≤n)(h2:0≤a)(h3:a+n≤64)(h5:0≤x)(h6:x<18446744073709551616):
  Calls Tryz.prog 107 #[.int .u64 x,.int .i64 a,.int .i64 n] w fun e w'=>e=.returned (.int .i64 (sgn x a n))∧w=w':=by
 have hb:=fld_bd x a n (by omega)
 by_cases hn:n=64
 ·subst hn
  go_enter Tryz.func107,Tryz.ntmps107
  go_wp2_with (go_at_call 108;refine(RefField_any _ _ _ _ (by omega) (by omega) (by omega) (by omega) (by omega)).mono ?_;rintro e w' ⟨rfl,rfl⟩)
  go_ret
  exact⟨congrArg (fun z=>Ending.returned (.int .i64 z)) (sgn_64 x a),rfl⟩
 ·have hl:=fld_lt63 x a n (by omega)
  have hn1:(n==64)=false:=by simp [hn]
  have hp:=p2_pos (n-1)
  have hp2:=p2_bd (n-1) (by omega)
  have hp3:=p2_bd n (by omega)
  have hp4:p2 (n-1)<9223372036854775808:=by
   have:=p2_succ (n-1).toNat
   rw [show (((n-1).toNat:Int))=n-1 by omega,show n-1+1=n by omega] at this
   omega
  by_cases hc:p2 (n-1)≤fld x a n
  ·have HS:=Lib.hid (sgn_yes x a n h1 hc)
   go_enter Tryz.func107,Tryz.ntmps107
   go_wp2_with (first
    | (go_at_call 108;refine(RefField_any _ _ _ _ (by omega) (by omega) (by omega) (by omega) (by omega)).mono ?_;rintro e w' ⟨rfl,rfl⟩)
    | (go_at_call 123;refine(Pow_any _ _ (by omega) (by omega)).mono ?_;rintro e w' ⟨rfl,rfl⟩))
   go_ret
   exact⟨congrArg (fun z=>Ending.returned (.int .i64 z)) HS.out,rfl⟩
  ·have HS:=Lib.hid (sgn_no x a n h1 hc)
   have hc2:decide (p2 (n-1)≤fld x a n)=false:=by simp;omega
   clear hc
   go_enter Tryz.func107,Tryz.ntmps107
   go_wp2_with (first
    | (go_at_call 108;refine(RefField_any _ _ _ _ (by omega) (by omega) (by omega) (by omega) (by omega)).mono ?_;rintro e w' ⟨rfl,rfl⟩)
    | (go_at_call 123;refine(Pow_any _ _ (by omega) (by omega)).mono ?_;rintro e w' ⟨rfl,rfl⟩))
   go_ret
   exact⟨congrArg (fun z=>Ending.returned (.int .i64 z)) HS.out,rfl⟩
def tailF (b:List Int)(i j:Nat):Int:=leF (fun t=>zat b (8*i+(j+t))) (8-j)
theorem tailF_0 (b:List Int)(i:Nat):tailF b i 0=wordAt b i:=by simp [tailF,wordAt]
theorem tailF_step (b:List Int)(i j:Nat)(h:j<8):tailF b i j=tailF b i (j+1)*256+zat b (8*i+j):=by
 unfold tailF
 rw [show 8-j=(8-(j+1))+1 by omega,leF_first]
 simp only [Nat.add_zero]
 congr 2
 apply leF_congr
 intro t _
 congr 1
 omega
theorem tailF_bd {b:List Int}(hb:Bts b)(i j:Nat):0≤tailF b i j∧tailF b i j<18446744073709551616:=by
 have h:=leF_bd (fun t=>zat b (8*i+(j+t))) (8-j) (fun t _=>hb.at _)
 have h2:=Nat.pow_le_pow_right (n:=256) (by decide) (show 8-j≤8 by omega)
 have e:(256:Int) ^ (8-j)=((256 ^ (8-j):Nat):Int):=by simp
 unfold tailF
 rw [e] at h
 omega
theorem RefGet_any (A:Option Addr)(c:Nat)(b:List Int)(i:Int)(w:World)(hr:Ri w .u8 A b)(hb:Bts b)(hm:b.length≤140737488355328)
  (h1:-9223372036854775808≤i) (h2:i≤9223372036854775807) :
  Calls Tryz.prog 124 #[.slice A b.length c,.int .i64 i] w fun e w'=>e=.returned (.tuple #[.int .u64 (getW b i),.bool (hasW b i)])∧w=w':=by
 have Hr:=Lib.hid hr
 clear hr
 have Hb:=Lib.hid hb
 clear hb
 by_cases h0:i<0
 ·have Hf:Hid (hasW b i=false):=Lib.hid (by unfold hasW;simp;omega)
  go_enter Tryz.func124,Tryz.ntmps124
  go_wp2
  go_ret2
  exact⟨by simp [getW,Hf.out],rfl⟩
 ·by_cases hl:i<(b.length / 8:Nat)
  ·have Hf:Hid (hasW b i=true):=Lib.hid (by unfold hasW;simp;omega)
   obtain⟨I,rfl⟩:=Int.eq_ofNat_of_zero_le (by omega:0≤i)
   have hk:I<b.length / 8:=by omega
   have hk2:8*I+8≤b.length:=by omega
   obtain⟨g,off,rfl,hcell⟩:=Hr.out.at (i:=8*I) (by omega)
   have Hc:=Lib.hid hcell
   clear hcell
   go_enter Tryz.func124,Tryz.ntmps124
   go_wp2
   go_loop [6,7] (fun v t=>∃j:Nat,j≤8∧t=.int .i64 ((j:Int)-1)∧v=.int .u64 (tailF b I j)) (fun _ t=>(intOf t+1).toNat)
   case atStart=>exact⟨8,by omega,rfl,rfl⟩
   case round=>
    obtain⟨j,hj,rfl,rfl⟩:=hrel
    cases j with
    | zero=>
     go_wp2
     go_ret2
     refine⟨?_,rfl⟩
     rw [Hf.out]
     have e1:getW b (I:Int)=tailF b I 0:=by rw [tailF_0];simp [getW,Hf.out]
     rw [e1]
     rfl
    | succ j=>
     rw [show (((j+1:Nat):Int)-1)=(j:Int) by omega]
     have hcell:=Hc.out (8*I+j) (by omega)
     have hz:=Hb.out.at (8*I+j)
     have hb1:=tailF_bd Hb.out I (j+1)
     have hb2:=tailF_bd Hb.out I j
     have hs:=tailF_step b I j (by omega)
     rw [hs] at hb2
     have HS:=Lib.hid hs
     clear hs
     have hlt:(8*(I:Int)+(j:Int))<(b.length:Int):=by omega
     go_wp2
     go_round
     case rel=>exact⟨j,by omega,rfl,by rw [HS.out]⟩
     case measure=>simp [intOf]
  ·have Hf:Hid (hasW b i=false):=Lib.hid (by unfold hasW;simp;omega)
   go_enter Tryz.func124,Tryz.ntmps124
   go_wp2
   go_ret2
   exact⟨by simp [getW,Hf.out],rfl⟩
set_option maxRecDepth 100000 in
theorem RefWords_yes (A:Option Addr)(c:Nat)(b:List Int)(w:World)(hr:Ri w .u8 A b)(hb:Bts b)(hm:b.length≤140737488355328)(h8:b.length % 8=0):
  Calls Tryz.prog 110 #[.slice A b.length c] w fun e w'=>∃v,e=.returned (.tuple #[v,.bool true])∧Got w' w.heap.size 39 .u64 v (wordsOf b)∧Below w.heap.size w w':=by
 obtain⟨i0,hi,hz0,hz1,hz2⟩:=info_parts int64_info
 have h8':((b.length:Int) % 8 != 0)=false:=by simp;omega
 have h8'':((b.length:Int) % 8==0)=true:=by simp;omega
 have Hr:=Lib.hid hr
 have Hb:=Lib.hid hb
 clear hr hb
 go_enter Tryz.func110,Tryz.ntmps110
 go_wp2
 go_loopw [4,5] (fun v i wr=>∃k:Nat,k≤b.length / 8∧i=.int .i64 k∧Got wr w.heap.size 39 .u64 v ((wordsOf b).take k)∧Below w.heap.size w wr) (fun _ i _=>b.length / 8-(intOf i).toNat)
 case atStart=>exact⟨0,by omega,rfl,Got.empty _ _ _ _,Below.refl _ _⟩
 case round=>
  obtain⟨k,hk,rfl,hgk,hbk⟩:=hrel
  by_cases hlt:k<b.length / 8
  ·have hgw:=Lib.hid (RefGet_any A c b k wr (Hr.out.below hbk (Nat.le_refl _)) Hb.out hm (by omega) (by omega))
   have hsz:=hbk.size
   have HL:Hid (((wordsOf b).take k).length=k):=Lib.hid (by rw [List.length_take,wordsOf_length];omega)
   have HB:=Lib.hid hbk
   clear hbk
   go_wp2_with (first
    | (go_at_call 124;refine hgw.out.mono ?_;rintro e w' ⟨rfl,rfl⟩)
    | (at_builtin;refine wpList_app1 rfl (.tmp 25) (.tmp 27) 25 rfl Tryz.underlying25 hi hz0 hz1 hz2 rfl hgk rfl (by rw [HL.out];unfold maxLen;omega) (by rw [HL.out];omega) hsz ?_;intro v1 w1 hg1 hb1))
   go_roundw
   case rel=>
    refine⟨k+1,by omega,by go_num,?_,HB.out.trans hb1⟩
    have e:getW b (k:Int)=zat (wordsOf b) k:=by
     rw [wordsOf_zat _ _ hlt]
     have:hasW b k=true:=by unfold hasW;simp;omega
     simp [getW,this]
    rw [take_succ_zat _ _ (by rw [wordsOf_length];exact hlt),←e]
    exact hg1
   case measure=>simp [intOf];omega
  ·obtain rfl:k=b.length / 8:=by omega
   go_wp2
   go_ret2
   exact⟨_,rfl,hgk.cast rfl (by rw [List.take_of_length_le (by rw [wordsOf_length];omega)]),hbk⟩
set_option maxRecDepth 100000 in
theorem RefBytes_any (A:Option Addr)(c:Nat)(l:List Int)(w:World)(hr:Ri w .u64 A l)(hb:Wds l)(hm:l.length≤17592186044415):
  Calls Tryz.prog 62 #[.slice A l.length c] w fun e w'=>∃v,e=.returned v∧Got w' w.heap.size 5 .u8 v (bytesOf l)∧Below w.heap.size w w':=by
 obtain⟨i0,hi,hz0,hz1,hz2⟩:=info_parts int8_info
 have Hr:=Lib.hid hr
 have Hb:=Lib.hid hb
 clear hr hb
 go_enter Tryz.func62,Tryz.ntmps62
 go_wp2
 go_loopw [3,4] (fun v i wr=>∃k:Nat,k≤l.length∧i=.int .i64 k∧Got wr w.heap.size 5 .u8 v (bytesOf (l.take k))∧Below w.heap.size w wr) (fun _ i _=>l.length-(intOf i).toNat)
 case atStart=>exact⟨0,by omega,rfl,Got.empty _ _ _ _,Below.refl _ _⟩
 case round=>
  obtain⟨k,hk,rfl,hgk,hbk⟩:=hrel
  obtain⟨wo,rfl⟩:∃wo:World,wo=wr:=⟨_,rfl⟩
  by_cases hlt:k<l.length
  ·obtain⟨g,off,rfl,hc3⟩:=(Hr.out.below hbk (Nat.le_refl _)).at hlt
   have hcell:=hc3 k hlt
   have hzk:=Hb.out.at k
   clear hc3
   have hl:(k:Int)<(l.length:Int):=by omega
   have HB:=Lib.hid hbk
   have HG:=Lib.hid hgk
   clear hbk hgk
   go_wp2
   go_loopw [3,5,6] (fun v x j wr=>∃m:Nat,m≤8∧j=.int .i64 m∧x=.int .u64 (zat l k / 256 ^ m)∧Got wr w.heap.size 5 .u8 v (bytesOf (l.take k)++(bytes8 (zat l k)).take m)∧Below w.heap.size w wr) (fun _ _ j _=>8-(intOf j).toNat)
   case atStart=>exact⟨0,by omega,rfl,by simp,by simpa using HG.out,HB.out⟩
   case round=>
    obtain⟨m,hmm,rfl,rfl,hgm,hbm⟩:=hrel
    by_cases hm8:m<8
    ·have hq:0≤zat l k / 256 ^ m:=Int.ediv_nonneg hzk.1 (Int.le_of_lt (Int.pow_pos (by decide)))
     have hq2:zat l k / 256 ^ m≤zat l k:=Int.ediv_le_self _ hzk.1
     have HL:Hid ((bytesOf (l.take k)++(bytes8 (zat l k)).take m).length=8*k+m):=Lib.hid (by rw [List.length_append,bytesOf_length,List.length_take,List.length_take,bytes8_length];omega)
     have hsz:=hbm.size
     have HB2:=Lib.hid hbm
     clear hbm
     go_wp2_with (at_builtin;refine wpList_app1 rfl (.tmp 21) (.tmp 25) 50 rfl Tryz.underlying50 hi hz0 hz1 hz2 rfl hgm rfl (by rw [HL.out];unfold maxLen;omega) (by rw [HL.out];omega) hsz ?_;intro v1 w1 hg1 hb1)
     go_roundw
     case rel=>
      refine⟨m+1,by omega,by go_num,?_,?_,HB2.out.trans hb1⟩
      ·rw [Int.pow_succ,Int.ediv_ediv_of_nonneg (Int.le_of_lt (Int.pow_pos (by decide)))]
      ·rw [take_succ_zat _ _ (by rw [bytes8_length];exact hm8),←List.append_assoc,bytes8_zat _ _ hm8]
       exact hg1
     case measure=>simp [intOf];omega
    ·obtain rfl:m=8:=by omega
     go_wp2
     go_roundw
     case rel=>
      refine⟨k+1,by omega,by go_num,?_,hbm⟩
      rw [bytesOf_take_succ _ _ hlt]
      exact hgm.cast rfl (by rw [List.take_of_length_le (l:=bytes8 (zat l k)) (by rw [bytes8_length];omega)])
     case measure=>simp [intOf];omega
  ·obtain rfl:k=l.length:=by omega
   go_wp2
   go_ret
   exact⟨_,rfl,hgk.cast rfl (by rw [List.take_of_length_le (by omega)]),hbk⟩
end Go.Proofs.YtfaflahfjgnphaaGreatDoor
