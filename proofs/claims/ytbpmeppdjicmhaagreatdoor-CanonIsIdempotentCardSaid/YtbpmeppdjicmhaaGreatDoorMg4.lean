/- The texts Word, Ref01 (what is wanted of them), one after the other. -/
import Derived.Test.YtbpmeppdjicmhaaGreatDoorMg1
import Derived.Test.YtbpmeppdjicmhaaGreatDoorRows
import Derived.ProofKit
import Derived.OpenShut
import Derived.Deep.DeepFit
import Derived.RegionTactic
import Derived.Deep.QuietTactic
import Derived.BigQuiet
namespace Go.Proofs.YtbpmeppdjicmhaaGreatDoor
open Go.ChangeShapes Go.WideShapes Go.ChangeAt Go.RowKit
set_option linter.unusedVariables false
set_option linter.unusedSimpArgs false
set_option maxRecDepth 100000
theorem lowBits_any (n:Int)(w:World)(h1:1≤n)(h2:n≤64):
  Calls Tryz.prog 156 #[.int .i64 n] w fun e w'=>e=.returned (.int .u64 (18446744073709551615 / 2 ^ (64-n).toNat))∧w=w':=by
 go_enter Tryz.func156,Tryz.ntmps156
 go_wp2
 go_ret
 exact⟨rfl,rfl⟩
theorem Field_any (x a n:Int)(w:World)(h1:1≤n)(h2:0≤a)(h3:a+n≤64)(h5:0≤x)(h6:x<18446744073709551616):
  Calls Tryz.prog 147 #[.int .u64 x,.int .i64 a,.int .i64 n] w fun e w'=>e=.returned (.int .u64 (fld x a n))∧w=w':=by
 have HF:=Lib.hid (fld_go x a n (by omega) (by omega) h5 h6)
 go_enter Tryz.func147,Tryz.ntmps147
 go_wp2_with (go_at_call 156;refine(lowBits_any _ _ (by omega) (by omega)).mono ?_;rintro e w' ⟨rfl,rfl⟩)
 go_ret
 exact⟨congrArg (fun z=>Ending.returned (.int .u64 z)) HF.out,rfl⟩
theorem Insert_any (x a n v:Int)(w:World)(h1:1≤n)(h2:0≤a)(h3:a+n≤64)(h5:0≤x)(h6:x<18446744073709551616)(h7:0≤v)(h8:v<18446744073709551616):
  Calls Tryz.prog 146 #[.int .u64 x,.int .i64 a,.int .i64 n,.int .u64 v] w fun e w'=>e=.returned (.int .u64 (ins x a n v))∧w=w':=by
 have HF:=Lib.hid (ins_go x a n v (by omega) h2 h3 h5 h6 h7 h8)
 go_enter Tryz.func146,Tryz.ntmps146
 go_wp2_with (go_at_call 156;refine(lowBits_any _ _ (by omega) (by omega)).mono ?_;rintro e w' ⟨rfl,rfl⟩)
 go_ret
 exact⟨congrArg (fun z=>Ending.returned (.int .u64 z)) HF.out,rfl⟩
theorem Signed_any (x a n:Int)(w:World)(h1:1≤n)(h2:0≤a)(h3:a+n≤64)(h5:0≤x)(h6:x<18446744073709551616):
  Calls Tryz.prog 157 #[.int .u64 x,.int .i64 a,.int .i64 n] w fun e w'=>e=.returned (.int .i64 (sgn x a n))∧w=w':=by
 have hb:=fld_bd x a n (by omega)
 have HF:=Lib.hid (sgn_go x a n h1 (by omega))
 go_enter Tryz.func157,Tryz.ntmps157
 go_wp2_with (go_at_call 147;refine(Field_any _ _ _ _ h1 h2 h3 h5 h6).mono ?_;rintro e w' ⟨rfl,rfl⟩)
 go_ret
 exact⟨congrArg (fun z=>Ending.returned (.int .i64 z)) HF.out,rfl⟩
theorem decode_any (b off len cap:Nat)(z:Nat→Int)(w:World)(h8:8≤len)(hm:len≤9223372036854775807)(hz:∀i,i<8→0≤z i∧z i<256)
  (hc:∀i,i<8→w.cell? ⟨b,off+i,none⟩=some (.int .u8 (z i))) :
  Calls Tryz.prog 135 #[.slice (some ⟨b,off,none⟩) len cap] w fun e w'=>e=.returned (.int .u64 (leF z 8))∧w=w':=by
 have Hc:=Lib.hid hc
 clear hc
 have Hz:=Lib.hid hz
 clear hz
 go_enter Tryz.func135,Tryz.ntmps135
 go_wp2
 go_loop [3,5] (fun v i=>∃k:Nat,k≤8∧i=.int .i64 k∧v=.int .u64 (leF z k)) (fun _ i=>8-(intOf i).toNat)
 case atStart=>exact⟨0,by omega,rfl,rfl⟩
 case round=>
  obtain⟨k,hk,rfl,rfl⟩:=hrel
  by_cases hlt:k<8
  ·have hcell:=Hc.out k hlt
   have hl:(k:Int)<(len:Int):=by omega
   have hzk:=Hz.out k hlt
   have hz1:=hzk.1
   have hz2:=hzk.2
   have HS:=Lib.hid (leF_step z k hlt Hz.out)
   go_wp2
   go_round
   case rel=>exact⟨k+1,by omega,by go_num,by rw [HS.out]⟩
   case measure=>simp [intOf];omega
  ·obtain rfl:k=8:=by omega
   go_wp2
   go_ret
   exact⟨rfl,rfl⟩
def hasW (b:List Int)(i:Int):Bool:=decide (0≤i∧i<(b.length / 8:Nat))
def getW (b:List Int)(i:Int):Int:=if hasW b i then wordAt b i.toNat else 0
theorem Get_any (A:Option Addr)(c:Nat)(b:List Int)(i:Int)(w:World)(hr:Ri w .u8 A b)(hb:Bts b)(hm:b.length≤140737488355328)(hc:b.length≤c)(hc2:c≤9223372036854775807)
  (h1:-9223372036854775808≤i) (h2:i≤9223372036854775807) :
  Calls Tryz.prog 118 #[.slice A b.length c,.int .i64 i] w fun e w'=>e=.returned (.tuple #[.int .u64 (getW b i),.bool (hasW b i)])∧w=w':=by
 have Hr:=Lib.hid hr
 clear hr
 have Hb:=Lib.hid hb
 clear hb
 by_cases h0:i<0
 ·have hh:hasW b i=false:=by unfold hasW;simp;omega
  have Hf:=Lib.hid hh
  clear hh
  go_enter Tryz.func118,Tryz.ntmps118
  go_wp2
  go_ret2
  exact⟨by simp [getW,Hf.out],rfl⟩
 ·by_cases hl:i<(b.length / 8:Nat)
  ·have hh:hasW b i=true:=by unfold hasW;simp;omega
   have Hf:=Lib.hid hh
   clear hh
   obtain⟨k,rfl⟩:=Int.eq_ofNat_of_zero_le (by omega:0≤i)
   have hk:k<b.length / 8:=by omega
   obtain⟨g,off,rfl,hcell⟩:=Hr.out.at (i:=8*k) (by omega)
   have HD:=Lib.hid (decode_any g (off+8*k) (b.length-8*k) (c-8*k) (fun j=>zat b (8*k+j)) w (by omega) (by omega) (fun j _=>Hb.out.at _)
    (fun j hj=>by rw [Nat.add_assoc];exact hcell (8*k+j) (by omega)))
   clear hcell
   go_enter Tryz.func118,Tryz.ntmps118
   go_wp2_with (go_at_call 135;refine HD.out.mono ?_;rintro e w' ⟨rfl,rfl⟩)
   go_ret2
   refine⟨?_,rfl⟩
   have e1:getW b (k:Int)=wordAt b k:=by simp [getW,Hf.out]
   have e2:leF (fun j=>zat b (8*k+j)) 8=wordAt b k:=rfl
   rw [Hf.out,e1,e2]
   rfl
  ·have hh:hasW b i=false:=by unfold hasW;simp;omega
   have Hf:=Lib.hid hh
   clear hh
   go_enter Tryz.func118,Tryz.ntmps118
   go_wp2
   go_ret2
   exact⟨by simp [getW,Hf.out],rfl⟩
theorem encode_any (base g n off len cap:Nat)(zs:List Int)(x:Int)(w:World)(h8:8≤len)(hm:len≤9223372036854775807)(hz:off+8≤zs.length)(hn:n=zs.length)
  (cap0:Nat) (hg:Got w base 5 .u8 (.slice (some ⟨g,0,none⟩) n cap0) zs) :
  Calls Tryz.prog 143 #[.slice (some ⟨g,off,none⟩) len cap,.int .u64 x] w fun e w'=>e=.returned (.tuple #[]) ∧
   Got w' base 5 .u8 (.slice (some ⟨g,0,none⟩) n cap0) (splice zs off (bytes8 x))∧Below base w w':=by
 have Hn:=Lib.hid hn
 clear hn
 have hbase:=hg.base_le
 go_enter Tryz.func143,Tryz.ntmps143
 go_wp2
 go_loopw [5] (fun i wr=>∃k:Nat,k≤8∧i=.int .i64 k∧Got wr base 5 .u8 (.slice (some ⟨g,0,none⟩) n cap0) (splice zs off ((bytes8 x).take k))∧Below base w wr) (fun i _=>8-(intOf i).toNat)
 case atStart=>exact⟨0,by omega,rfl,by rw [List.take_zero,splice_nil];exact hg,Below.refl _ _⟩
 case round=>
  obtain⟨k,hk,rfl,hgk,hbk⟩:=hrel
  have l8:=bytes8_length x
  by_cases hlt:k<8
  ·have hlk:off+((bytes8 x).take k).length≤zs.length:=by simp;omega
   have HL:=Lib.hid (splice_length hlk)
   have hn2:n=(splice zs off ((bytes8 x).take k)).length:=by rw [HL.out,Hn.out]
   have hgk':Got wr base 5 .u8 (.slice (some ⟨g,0,none⟩) (splice zs off ((bytes8 x).take k)).length cap0) (splice zs off ((bytes8 x).take k)):=by rw [←hn2];exact hgk
   have hcell:=hgk'.cell (off+k) (by rw [HL.out];omega)
   have hfree:=hgk'.free (off+k)
   have HG:=Lib.hid hgk'
   have HB:=Lib.hid hbk
   have HN:=Lib.hid hn2
   clear hgk hgk' hbk hn2
   have hl:(k:Int)<(len:Int):=by omega
   go_wp2
   go_roundw
   case rel=>
    have e:=splice_step (zs:=zs) (ys:=bytes8 x) (o:=off) (k:=k) (by omega) (by omega)
    rw [bytes8_zat x k hlt] at e
    rw [byteOf_go]
    refine⟨k+1,by omega,by go_num,?_,HB.out.setCell (by show base≤g;omega) _⟩
    exact(HG.out.put (off+k) (byteOf x k)).cast (by rw [←HN.out]) e
   case measure=>simp [intOf];omega
  ·obtain rfl:k=8:=by omega
   go_wp2
   go_end0
   exact⟨rfl,hgk.cast rfl (by rw [List.take_of_length_le (by omega)]),hbk⟩
theorem int8_info:(Tryz.prog.info? 5).map (fun i=>(i.zero,i.size,i.bytes))=some (some (.int .u8 0),1,1):=by kernel_rfl
theorem int64_info:(Tryz.prog.info? 48).map (fun i=>(i.zero,i.size,i.bytes))=some (some (.int .u64 0),1,8):=by kernel_rfl
theorem Bytes_any (A:Option Addr)(c:Nat)(l:List Int)(w:World)(hr:Ri w .u64 A l)(hb:Wds l)(hm:l.length≤17592186044416):
  Calls Tryz.prog 132 #[.slice A l.length c] w fun e w'=>∃v,e=.returned v∧Got w' w.heap.size 5 .u8 v (bytesOf l)∧Below w.heap.size w w':=by
 obtain⟨i0,hi,hz0,hz1,hz2⟩:=info_parts int8_info
 have Hr:=Lib.hid hr
 have Hb:=Lib.hid hb
 clear hr hb
 go_enter Tryz.func132,Tryz.ntmps132
 go_wp2_with (at_make;refine wpList_make_full _ rfl _ _ 36 rfl w.heap.size 5 i0 (.int .u8 0) 1 Tryz.underlying36 hi hz0 hz1 .i64 .i64 _ _ (8*l.length) rfl rfl (by omega) (by omega) (by rw [hz2];omega) (by unfold maxLen;omega) (Nat.le_refl _) ?_;intro w0 hown0 hgrow0)
 have hb0:Below w.heap.size w w0:=(Below.refl _ _).grown hgrow0 (Nat.le_refl _) (by simp)
 have hg0:=got_made hown0
 have hlz:(List.replicate (8*l.length) (0:Int)).length=8*l.length:=by simp
 go_loopw [12] (fun i wr=>∃k:Nat,k≤l.length∧i=.int .i64 k∧Got wr w.heap.size 5 .u8 (.slice (some ⟨w.heap.size,0,none⟩) (8*l.length) (8*l.length)) (splice (List.replicate (8*l.length) 0) 0 (bytesOf (l.take k)))∧Below w.heap.size w wr) (fun i _=>l.length-(intOf i).toNat)
 case atStart=>exact⟨0,by omega,rfl,by rw [List.take_zero];exact hg0.cast rfl (splice_nil _ _).symm,hb0⟩
 case round=>
  obtain⟨k,hk,rfl,hgk,hbk⟩:=hrel
  clear hg0 hb0 hown0 hgrow0
  by_cases hlt:k<l.length
  ·have hlk:0+(bytesOf (l.take k)).length≤(List.replicate (8*l.length) (0:Int)).length:=by rw [bytesOf_length,List.length_take,hlz];omega
   have HL:=Lib.hid (splice_length hlk)
   have hr:=Hr.out.below hbk (Nat.le_refl _)
   obtain⟨g,off,rfl,hc3⟩:=hr.at (i:=k) hlt
   have hcell:=hc3 k hlt
   have hzk:=Hb.out.at k
   have hl:(k:Int)<(l.length:Int):=by omega
   have HE:=Lib.hid (encode_any w.heap.size w.heap.size (8*l.length) (8*k) (8*l.length-8*k) (8*l.length-8*k) _ (zat l k) wr (by omega) (by omega)
    (by rw [HL.out,hlz];omega) (by rw [HL.out,hlz]) (8*l.length) hgk)
   have HB:=Lib.hid hbk
   have HZ:=Lib.hid hlz
   clear hgk hbk hc3 hr hlz hlk
   go_wp2_with (go_at_call 143;refine HE.out.mono ?_;rintro e w' ⟨rfl,hg1,hb1⟩)
   go_roundw
   case rel=>
    refine⟨k+1,by omega,by go_num,hg1.cast rfl (splice_bytes (by rw [HZ.out];omega) hlt),HB.out.trans hb1⟩
   case measure=>simp [intOf];omega
  ·obtain rfl:k=l.length:=by omega
   go_wp2
   go_ret
   exact⟨_,rfl,hgk.cast rfl (by rw [List.take_of_length_le (by omega),splice_all (by rw [bytesOf_length,hlz])]),hbk⟩
def sameB (a b:List Int):Bool:=decide (a=b)
theorem sameB_no (a b:List Int)(k:Nat)(h:zat a k≠zat b k):sameB a b=false:=by
 unfold sameB
 simp
 rintro rfl
 exact h rfl
theorem sameB_len (a b:List Int)(h:a.length≠b.length):sameB a b=false:=by
 unfold sameB
 simp
 rintro rfl
 exact h rfl
theorem sameB_yes (a b:List Int)(hl:a.length=b.length)(h:∀i,i<a.length→zat a i=zat b i):sameB a b=true:=by
 unfold sameB
 simp [ext_zat hl h]
theorem sameB_self (a:List Int):sameB a a=true:=by simp [sameB]
theorem Same_any (A B:Option Addr)(c d:Nat)(a b:List Int)(w:World)(ha:Ri w .u8 A a)(hb:Ri w .u8 B b)(hm:a.length≤9223372036854775807)(hm2:b.length≤9223372036854775807):
  Calls Tryz.prog 31 #[.slice A a.length c,.slice B b.length d] w fun e w'=>e=.returned (.bool (sameB a b))∧∃m,w'=w.drewN m:=by
 have Ha:=Lib.hid ha
 have Hb:=Lib.hid hb
 clear ha hb
 by_cases hl:a.length=b.length
 ·have HL:=Lib.hid hl
  have hlen:((a.length:Int) != (b.length:Int))=false:=by simp [hl]
  have hlen2:((a.length:Int)==(b.length:Int))=true:=by simp [hl]
  clear hl
  go_enter Tryz.func31,Tryz.ntmps31
  go_wp2
  go_loopw [5] (fun i wr=>∃k:Nat,k≤a.length∧i=.int .i64 k∧(∀j,j<k→zat a j=zat b j)∧∃m,wr=w.drewN m) (fun i _=>a.length-(intOf i).toNat)
  case atStart=>exact⟨0,by omega,rfl,by intro j hj;omega,0,rfl⟩
  case round=>
   obtain⟨k,hk,rfl,hsame,m,rfl⟩:=hrel
   have HS:=Lib.hid hsame
   clear hsame
   by_cases hlt:k<a.length
   ·obtain⟨g,off,rfl,hc1⟩:=Ha.out.at hlt
    have hc1k:=hc1 k hlt
    have hltb:k<b.length:=by rw [←HL.out];exact hlt
    obtain⟨g',off',rfl,hc2⟩:=Hb.out.at hltb
    have hc2k:=hc2 k hltb
    clear hc1 hc2
    have hi1:(k:Int)<(a.length:Int):=by omega
    have hi2:(k:Int)<(b.length:Int):=by omega
    by_cases hz:zat a k=zat b k
    ·have hz1:(zat a k != zat b k)=false:=by simp [hz]
     have hz2:(zat a k==zat b k)=true:=by simp [hz]
     have HZ:=Lib.hid hz
     clear hz
     go_wp2
     go_quiet (fail)
     go_wp2
     go_roundw
     case rel=>exact⟨k+1,by omega,by go_num,fun j hj=>by
      by_cases e:j=k
      ·subst e;exact HZ.out
      ·exact HS.out j (by omega),_,rfl⟩
     case measure=>simp [intOf];omega
    ·have hz1:(zat a k != zat b k)=true:=by simp [hz]
     have hz2:(zat a k==zat b k)=false:=by simp [hz]
     have HZ:=Lib.hid hz
     clear hz
     go_wp2
     go_quiet (fail)
     go_wp2
     go_ret
     exact⟨by rw [sameB_no a b k HZ.out];rfl,_,World.drewN_drewN _ _ _⟩
   ·obtain rfl:k=a.length:=by omega
    go_wp2
    go_ret
    exact⟨by rw [sameB_yes a b HL.out HS.out];rfl,_,rfl⟩
 ·have HL:=Lib.hid (sameB_len a b hl)
  have hlen:((a.length:Int) != (b.length:Int))=true:=by simp;omega
  have hlen2:((a.length:Int)==(b.length:Int))=false:=by simp;omega
  clear hl
  go_enter Tryz.func31,Tryz.ntmps31
  go_wp2
  go_ret
  exact⟨by rw [HL.out];rfl,0,rfl⟩
theorem SameWords_any (A B:Option Addr)(c d:Nat)(a b:List Int)(w:World)(ha:Ri w .u64 A a)(hb:Ri w .u64 B b)(hm:a.length≤9223372036854775807)(hm2:b.length≤9223372036854775807):
  Calls Tryz.prog 13 #[.slice A a.length c,.slice B b.length d] w fun e w'=>e=.returned (.bool (sameB a b))∧∃m,w'=w.drewN m:=by
 have Ha:=Lib.hid ha
 have Hb:=Lib.hid hb
 clear ha hb
 by_cases hl:a.length=b.length
 ·have HL:=Lib.hid hl
  have hlen:((a.length:Int) != (b.length:Int))=false:=by simp [hl]
  have hlen2:((a.length:Int)==(b.length:Int))=true:=by simp [hl]
  clear hl
  go_enter Tryz.func13,Tryz.ntmps13
  go_wp2
  go_loopw [5] (fun i wr=>∃k:Nat,k≤a.length∧i=.int .i64 k∧(∀j,j<k→zat a j=zat b j)∧∃m,wr=w.drewN m) (fun i _=>a.length-(intOf i).toNat)
  case atStart=>exact⟨0,by omega,rfl,by intro j hj;omega,0,rfl⟩
  case round=>
   obtain⟨k,hk,rfl,hsame,m,rfl⟩:=hrel
   have HS:=Lib.hid hsame
   clear hsame
   by_cases hlt:k<a.length
   ·obtain⟨g,off,rfl,hc1⟩:=Ha.out.at hlt
    have hc1k:=hc1 k hlt
    have hltb:k<b.length:=by rw [←HL.out];exact hlt
    obtain⟨g',off',rfl,hc2⟩:=Hb.out.at hltb
    have hc2k:=hc2 k hltb
    clear hc1 hc2
    have hi1:(k:Int)<(a.length:Int):=by omega
    have hi2:(k:Int)<(b.length:Int):=by omega
    by_cases hz:zat a k=zat b k
    ·have hz1:(zat a k != zat b k)=false:=by simp [hz]
     have hz2:(zat a k==zat b k)=true:=by simp [hz]
     have HZ:=Lib.hid hz
     clear hz
     go_wp2
     go_quiet (fail)
     go_wp2
     go_roundw
     case rel=>exact⟨k+1,by omega,by go_num,fun j hj=>by
      by_cases e:j=k
      ·subst e;exact HZ.out
      ·exact HS.out j (by omega),_,rfl⟩
     case measure=>simp [intOf];omega
    ·have hz1:(zat a k != zat b k)=true:=by simp [hz]
     have hz2:(zat a k==zat b k)=false:=by simp [hz]
     have HZ:=Lib.hid hz
     clear hz
     go_wp2
     go_quiet (fail)
     go_wp2
     go_ret
     exact⟨by rw [sameB_no a b k HZ.out];rfl,_,World.drewN_drewN _ _ _⟩
   ·obtain rfl:k=a.length:=by omega
    go_wp2
    go_ret
    exact⟨by rw [sameB_yes a b HL.out HS.out];rfl,_,rfl⟩
 ·have HL:=Lib.hid (sameB_len a b hl)
  have hlen:((a.length:Int) != (b.length:Int))=true:=by simp;omega
  have hlen2:((a.length:Int)==(b.length:Int))=false:=by simp;omega
  clear hl
  go_enter Tryz.func13,Tryz.ntmps13
  go_wp2
  go_ret
  exact⟨by rw [HL.out];rfl,0,rfl⟩
def p2 (n:Int):Int:=2 ^ n.toNat
theorem p2_pos (n:Int):1≤p2 n:=by
 have:(0:Int)<2 ^ n.toNat:=Int.pow_pos (by decide)
 unfold p2;omega
theorem p2_bd (n:Int)(h:n≤63):p2 n≤9223372036854775808:=by
 have:=Nat.pow_le_pow_right (n:=2) (by decide) (show n.toNat≤63 by omega)
 have e:(2:Int) ^ n.toNat=((2 ^ n.toNat:Nat):Int):=by simp
 unfold p2
 rw [e];omega
theorem p2_succ (k:Nat):p2 ((k:Int)+1)=p2 k*2:=by
 unfold p2
 rw [show ((k:Int)+1).toNat=k+1 by omega,Int.toNat_natCast,Int.pow_succ]
theorem Pow_any (n:Int)(w:World)(h0:0≤n)(h1:n≤63):
  Calls Tryz.prog 108 #[.int .i64 n] w fun e w'=>e=.returned (.int .u64 (p2 n))∧w=w':=by
 obtain⟨m,rfl⟩:=Int.eq_ofNat_of_zero_le h0
 go_enter Tryz.func108,Tryz.ntmps108
 go_wp2
 go_loop [3,4] (fun p i=>∃k:Nat,k≤m∧i=.int .i64 k∧p=.int .u64 (p2 k)) (fun _ i=>m-(intOf i).toNat)
 case atStart=>exact⟨0,by omega,rfl,rfl⟩
 case round=>
  obtain⟨k,hk,rfl,rfl⟩:=hrel
  by_cases hlt:k<m
  ·have hp:=p2_pos k
   have hb:=p2_bd ((k:Int)+1) (by omega)
   have HS:=Lib.hid (p2_succ k)
   rw [HS.out] at hb
   go_wp2
   go_round
   case rel=>exact⟨k+1,by omega,by go_num,by rw [←HS.out];go_num⟩
   case measure=>simp [intOf];omega
  ·obtain rfl:k=m:=by omega
   go_wp2
   go_ret
   exact⟨rfl,rfl⟩
theorem fld_zero (x a:Int):fld x a 0=0:=by simp [fld,fldN,Nat.mod_one]
theorem fld_succ (x a:Int)(k:Nat)(hx:0≤x)(ha:0≤a):fld x a ((k:Int)+1)=fld x a k+x / p2 (a+k) % 2*p2 k:=by
 obtain⟨X,rfl⟩:=Int.eq_ofNat_of_zero_le hx
 obtain⟨A,rfl⟩:=Int.eq_ofNat_of_zero_le ha
 unfold fld p2
 rw [show ((k:Int)+1).toNat=k+1 by omega,show ((A:Int)+k).toNat=A+k by omega]
 simp only [Int.toNat_natCast]
 rw [fldN_step]
 simp
theorem quo_bd (x n:Int)(h5:0≤x)(h6:x<18446744073709551616):0≤x / p2 n∧x / p2 n<18446744073709551616:=by
 have hp:=p2_pos n
 have h1:=Int.ediv_nonneg h5 (by omega:0≤p2 n)
 have h2:=Int.ediv_le_self (p2 n) h5
 omega
theorem RefField_any (x a n:Int)(w:World)(h1:1≤n)(h2:0≤a)(h3:a+n≤64)(h5:0≤x)(h6:x<18446744073709551616):
  Calls Tryz.prog 88 #[.int .u64 x,.int .i64 a,.int .i64 n] w fun e w'=>e=.returned (.int .u64 (fld x a n))∧w=w':=by
 obtain⟨m,rfl⟩:=Int.eq_ofNat_of_zero_le (by omega:0≤n)
 go_enter Tryz.func88,Tryz.ntmps88
 go_wp2
 go_loop [7,8] (fun v i=>∃k:Nat,k≤m∧i=.int .i64 k∧v=.int .u64 (fld x a k)) (fun _ i=>m-(intOf i).toNat)
 case atStart=>exact⟨0,by omega,rfl,by rw [show ((0:Nat):Int)=0 from rfl,fld_zero]⟩
 case round=>
  obtain⟨k,hk,rfl,rfl⟩:=hrel
  by_cases hlt:k<m
  ·have hp:=p2_pos (a+k)
   have hp2:=p2_pos k
   have hq:=quo_bd x (a+k) h5 h6
   have hb:=fld_bd x a k (by omega)
   have hb1:=fld_bd x a (k+1) (by omega)
   have hs:=fld_succ x a k h5 h2
   by_cases hbit:x / p2 (a+k) % 2=1
   ·rw [hbit,Int.one_mul] at hs
    rw [hs] at hb1
    have t1:(x / p2 (a+k) % 2==1)=true:=by simp [hbit]
    have HS:=Lib.hid hs
    clear hs hbit
    go_wp2_with (go_at_call 108;refine(Pow_any _ _ (by omega) (by omega)).mono ?_;rintro e w' ⟨rfl,rfl⟩)
    go_round
    case rel=>exact⟨k+1,by omega,by go_num,by rw [←HS.out];go_num⟩
    case measure=>simp [intOf];omega
   ·have hbit0:x / p2 (a+k) % 2=0:=by omega
    rw [hbit0,Int.zero_mul,Int.add_zero] at hs
    have t1:(x / p2 (a+k) % 2==1)=false:=by simp [hbit0]
    have HS:=Lib.hid hs
    clear hs hbit hbit0
    go_wp2_with (go_at_call 108;refine(Pow_any _ _ (by omega) (by omega)).mono ?_;rintro e w' ⟨rfl,rfl⟩)
    go_round
    case rel=>exact⟨k+1,by omega,by go_num,by rw [←HS.out];go_num⟩
    case measure=>simp [intOf];omega
  ·obtain rfl:k=m:=by omega
   go_wp2
   go_ret
   exact⟨rfl,rfl⟩
theorem sgn_ref (x a n:Int)(h:1≤n):sgn x a n=if p2 (n-1)≤fld x a n then fld x a n-p2 (n-1)-p2 (n-1) else fld x a n:=by
 obtain⟨m,rfl⟩:∃m:Nat,n=(m:Int)+1:=⟨(n-1).toNat,by omega⟩
 unfold sgn p2
 rw [show ((m:Int)+1).toNat=m+1 by omega,show ((m:Int)+1-1).toNat=m by omega,show m+1-1=m by omega,Int.pow_succ]
 split<;>omega
theorem sgn_yes (x a n:Int)(h:1≤n)(hc:p2 (n-1)≤fld x a n):fld x a n-p2 (n-1)-p2 (n-1)=sgn x a n:=by rw [sgn_ref x a n h,if_pos hc]
theorem sgn_no (x a n:Int)(h:1≤n)(hc:¬p2 (n-1)≤fld x a n):fld x a n=sgn x a n:=by rw [sgn_ref x a n h,if_neg hc]
theorem sgn_64 (x a:Int):wrap64 (fld x a 64)=sgn x a 64:=by
 have h0:=fld_bd x a 64 (by omega)
 rw [sgn_ref x a 64 (by omega)]
 have e:p2 (64-1)=9223372036854775808:=by decide
 rw [e]
 unfold wrap64
 split<;>omega
theorem fld_lt63 (x a n:Int)(h:n≤63):fld x a n<9223372036854775808:=by
 have h1:=fld_lt x a n
 have h2:=p2_bd n h
 unfold p2 at h2
 omega
theorem RefSigned_any (x a n:Int)(w:World)(h1:1≤n)(h2:0≤a)(h3:a+n≤64)(h5:0≤x)(h6:x<18446744073709551616):
  Calls Tryz.prog 87 #[.int .u64 x,.int .i64 a,.int .i64 n] w fun e w'=>e=.returned (.int .i64 (sgn x a n))∧w=w':=by
 have hb:=fld_bd x a n (by omega)
 by_cases hn:n=64
 ·subst hn
  go_enter Tryz.func87,Tryz.ntmps87
  go_wp2_with (go_at_call 88;refine(RefField_any _ _ _ _ (by omega) (by omega) (by omega) (by omega) (by omega)).mono ?_;rintro e w' ⟨rfl,rfl⟩)
  go_ret
  exact⟨congrArg (fun z=>Ending.returned (.int .i64 z)) (sgn_64 x a),rfl⟩
 ·have hl:=fld_lt63 x a n (by omega)
  have hn1:(n==64)=false:=by simp [hn]
  have hp:=p2_pos (n-1)
  have hp2:=p2_bd (n-1) (by omega)
  have hp3:=p2_bd n (by omega)
  have hp4:p2 (n-1)<9223372036854775808:=by
   have:=p2_succ (n-1).toNat
   rw [show (((n-1).toNat:Int))=n-1 by omega,show n-1+1=n by omega] at this
   omega
  by_cases hc:p2 (n-1)≤fld x a n
  ·have HS:=Lib.hid (sgn_yes x a n h1 hc)
   go_enter Tryz.func87,Tryz.ntmps87
   go_wp2_with (first
    | (go_at_call 88;refine(RefField_any _ _ _ _ (by omega) (by omega) (by omega) (by omega) (by omega)).mono ?_;rintro e w' ⟨rfl,rfl⟩)
    | (go_at_call 108;refine(Pow_any _ _ (by omega) (by omega)).mono ?_;rintro e w' ⟨rfl,rfl⟩))
   go_ret
   exact⟨congrArg (fun z=>Ending.returned (.int .i64 z)) HS.out,rfl⟩
  ·have HS:=Lib.hid (sgn_no x a n h1 hc)
   have hc2:decide (p2 (n-1)≤fld x a n)=false:=by simp;omega
   clear hc
   go_enter Tryz.func87,Tryz.ntmps87
   go_wp2_with (first
    | (go_at_call 88;refine(RefField_any _ _ _ _ (by omega) (by omega) (by omega) (by omega) (by omega)).mono ?_;rintro e w' ⟨rfl,rfl⟩)
    | (go_at_call 108;refine(Pow_any _ _ (by omega) (by omega)).mono ?_;rintro e w' ⟨rfl,rfl⟩))
   go_ret
   exact⟨congrArg (fun z=>Ending.returned (.int .i64 z)) HS.out,rfl⟩
def tailF (b:List Int)(i j:Nat):Int:=leF (fun t=>zat b (8*i+(j+t))) (8-j)
theorem tailF_0 (b:List Int)(i:Nat):tailF b i 0=wordAt b i:=by simp [tailF,wordAt]
theorem tailF_step (b:List Int)(i j:Nat)(h:j<8):tailF b i j=tailF b i (j+1)*256+zat b (8*i+j):=by
 unfold tailF
 rw [show 8-j=(8-(j+1))+1 by omega,leF_first]
 simp only [Nat.add_zero]
 congr 2
 apply leF_congr
 intro t _
 congr 1
 omega
theorem tailF_bd {b:List Int}(hb:Bts b)(i j:Nat):0≤tailF b i j∧tailF b i j<18446744073709551616:=by
 have h:=leF_bd (fun t=>zat b (8*i+(j+t))) (8-j) (fun t _=>hb.at _)
 have h2:=Nat.pow_le_pow_right (n:=256) (by decide) (show 8-j≤8 by omega)
 have e:(256:Int) ^ (8-j)=((256 ^ (8-j):Nat):Int):=by simp
 unfold tailF
 rw [e] at h
 omega
theorem RefGet_any (A:Option Addr)(c:Nat)(b:List Int)(i:Int)(w:World)(hr:Ri w .u8 A b)(hb:Bts b)(hm:b.length≤140737488355328)
  (h1:-9223372036854775808≤i) (h2:i≤9223372036854775807) :
  Calls Tryz.prog 119 #[.slice A b.length c,.int .i64 i] w fun e w'=>e=.returned (.tuple #[.int .u64 (getW b i),.bool (hasW b i)])∧w=w':=by
 have Hr:=Lib.hid hr
 clear hr
 have Hb:=Lib.hid hb
 clear hb
 by_cases h0:i<0
 ·have Hf:Hid (hasW b i=false):=Lib.hid (by unfold hasW;simp;omega)
  go_enter Tryz.func119,Tryz.ntmps119
  go_wp2
  go_ret2
  exact⟨by simp [getW,Hf.out],rfl⟩
 ·by_cases hl:i<(b.length / 8:Nat)
  ·have Hf:Hid (hasW b i=true):=Lib.hid (by unfold hasW;simp;omega)
   obtain⟨I,rfl⟩:=Int.eq_ofNat_of_zero_le (by omega:0≤i)
   have hk:I<b.length / 8:=by omega
   have hk2:8*I+8≤b.length:=by omega
   obtain⟨g,off,rfl,hcell⟩:=Hr.out.at (i:=8*I) (by omega)
   have Hc:=Lib.hid hcell
   clear hcell
   go_enter Tryz.func119,Tryz.ntmps119
   go_wp2
   go_loop [6,7] (fun v t=>∃j:Nat,j≤8∧t=.int .i64 ((j:Int)-1)∧v=.int .u64 (tailF b I j)) (fun _ t=>(intOf t+1).toNat)
   case atStart=>exact⟨8,by omega,rfl,rfl⟩
   case round=>
    obtain⟨j,hj,rfl,rfl⟩:=hrel
    cases j with
    | zero=>
     go_wp2
     go_ret2
     refine⟨?_,rfl⟩
     rw [Hf.out]
     have e1:getW b (I:Int)=tailF b I 0:=by rw [tailF_0];simp [getW,Hf.out]
     rw [e1]
     rfl
    | succ j=>
     rw [show (((j+1:Nat):Int)-1)=(j:Int) by omega]
     have hcell:=Hc.out (8*I+j) (by omega)
     have hz:=Hb.out.at (8*I+j)
     have hb1:=tailF_bd Hb.out I (j+1)
     have hb2:=tailF_bd Hb.out I j
     have hs:=tailF_step b I j (by omega)
     rw [hs] at hb2
     have HS:=Lib.hid hs
     clear hs
     have hlt:(8*(I:Int)+(j:Int))<(b.length:Int):=by omega
     go_wp2
     go_round
     case rel=>exact⟨j,by omega,rfl,by rw [HS.out]⟩
     case measure=>simp [intOf]
  ·have Hf:Hid (hasW b i=false):=Lib.hid (by unfold hasW;simp;omega)
   go_enter Tryz.func119,Tryz.ntmps119
   go_wp2
   go_ret2
   exact⟨by simp [getW,Hf.out],rfl⟩
set_option maxRecDepth 100000 in
theorem RefWords_yes (A:Option Addr)(c:Nat)(b:List Int)(w:World)(hr:Ri w .u8 A b)(hb:Bts b)(hm:b.length≤140737488355328)(h8:b.length % 8=0):
  Calls Tryz.prog 106 #[.slice A b.length c] w fun e w'=>∃v,e=.returned (.tuple #[v,.bool true])∧Got w' w.heap.size 48 .u64 v (wordsOf b)∧Below w.heap.size w w':=by
 obtain⟨i0,hi,hz0,hz1,hz2⟩:=info_parts int64_info
 have h8':((b.length:Int) % 8 != 0)=false:=by simp;omega
 have h8'':((b.length:Int) % 8==0)=true:=by simp;omega
 have Hr:=Lib.hid hr
 have Hb:=Lib.hid hb
 clear hr hb
 go_enter Tryz.func106,Tryz.ntmps106
 go_wp2
 go_loopw [4,5] (fun v i wr=>∃k:Nat,k≤b.length / 8∧i=.int .i64 k∧Got wr w.heap.size 48 .u64 v ((wordsOf b).take k)∧Below w.heap.size w wr) (fun _ i _=>b.length / 8-(intOf i).toNat)
 case atStart=>exact⟨0,by omega,rfl,Got.empty _ _ _ _,Below.refl _ _⟩
 case round=>
  obtain⟨k,hk,rfl,hgk,hbk⟩:=hrel
  by_cases hlt:k<b.length / 8
  ·have hgw:=Lib.hid (RefGet_any A c b k wr (Hr.out.below hbk (Nat.le_refl _)) Hb.out hm (by omega) (by omega))
   have hsz:=hbk.size
   have HL:Hid (((wordsOf b).take k).length=k):=Lib.hid (by rw [List.length_take,wordsOf_length];omega)
   have HB:=Lib.hid hbk
   clear hbk
   go_wp2_with (first
    | (go_at_call 119;refine hgw.out.mono ?_;rintro e w' ⟨rfl,rfl⟩)
    | (at_builtin;refine wpList_app1 rfl (.tmp 25) (.tmp 27) 27 rfl Tryz.underlying27 hi hz0 hz1 hz2 rfl hgk rfl (by rw [HL.out];unfold maxLen;omega) (by rw [HL.out];omega) hsz ?_;intro v1 w1 hg1 hb1))
   go_roundw
   case rel=>
    refine⟨k+1,by omega,by go_num,?_,HB.out.trans hb1⟩
    have e:getW b (k:Int)=zat (wordsOf b) k:=by
     rw [wordsOf_zat _ _ hlt]
     have:hasW b k=true:=by unfold hasW;simp;omega
     simp [getW,this]
    rw [take_succ_zat _ _ (by rw [wordsOf_length];exact hlt),←e]
    exact hg1
   case measure=>simp [intOf];omega
  ·obtain rfl:k=b.length / 8:=by omega
   go_wp2
   go_ret2
   exact⟨_,rfl,hgk.cast rfl (by rw [List.take_of_length_le (by rw [wordsOf_length];omega)]),hbk⟩
set_option maxRecDepth 100000 in
theorem RefBytes_any (A:Option Addr)(c:Nat)(l:List Int)(w:World)(hr:Ri w .u64 A l)(hb:Wds l)(hm:l.length≤17592186044415):
  Calls Tryz.prog 45 #[.slice A l.length c] w fun e w'=>∃v,e=.returned v∧Got w' w.heap.size 5 .u8 v (bytesOf l)∧Below w.heap.size w w':=by
 obtain⟨i0,hi,hz0,hz1,hz2⟩:=info_parts int8_info
 have Hr:=Lib.hid hr
 have Hb:=Lib.hid hb
 clear hr hb
 go_enter Tryz.func45,Tryz.ntmps45
 go_wp2
 go_loopw [3,4] (fun v i wr=>∃k:Nat,k≤l.length∧i=.int .i64 k∧Got wr w.heap.size 5 .u8 v (bytesOf (l.take k))∧Below w.heap.size w wr) (fun _ i _=>l.length-(intOf i).toNat)
 case atStart=>exact⟨0,by omega,rfl,Got.empty _ _ _ _,Below.refl _ _⟩
 case round=>
  obtain⟨k,hk,rfl,hgk,hbk⟩:=hrel
  obtain⟨wo,rfl⟩:∃wo:World,wo=wr:=⟨_,rfl⟩
  by_cases hlt:k<l.length
  ·obtain⟨g,off,rfl,hc3⟩:=(Hr.out.below hbk (Nat.le_refl _)).at hlt
   have hcell:=hc3 k hlt
   have hzk:=Hb.out.at k
   clear hc3
   have hl:(k:Int)<(l.length:Int):=by omega
   have HB:=Lib.hid hbk
   have HG:=Lib.hid hgk
   clear hbk hgk
   go_wp2
   go_loopw [3,5,6] (fun v x j wr=>∃m:Nat,m≤8∧j=.int .i64 m∧x=.int .u64 (zat l k / 256 ^ m)∧Got wr w.heap.size 5 .u8 v (bytesOf (l.take k)++(bytes8 (zat l k)).take m)∧Below w.heap.size w wr) (fun _ _ j _=>8-(intOf j).toNat)
   case atStart=>exact⟨0,by omega,rfl,by simp,by simpa using HG.out,HB.out⟩
   case round=>
    obtain⟨m,hmm,rfl,rfl,hgm,hbm⟩:=hrel
    by_cases hm8:m<8
    ·have hq:0≤zat l k / 256 ^ m:=Int.ediv_nonneg hzk.1 (Int.le_of_lt (Int.pow_pos (by decide)))
     have hq2:zat l k / 256 ^ m≤zat l k:=Int.ediv_le_self _ hzk.1
     have HL:Hid ((bytesOf (l.take k)++(bytes8 (zat l k)).take m).length=8*k+m):=Lib.hid (by rw [List.length_append,bytesOf_length,List.length_take,List.length_take,bytes8_length];omega)
     have hsz:=hbm.size
     have HB2:=Lib.hid hbm
     clear hbm
     go_wp2_with (at_builtin;refine wpList_app1 rfl (.tmp 21) (.tmp 25) 36 rfl Tryz.underlying36 hi hz0 hz1 hz2 rfl hgm rfl (by rw [HL.out];unfold maxLen;omega) (by rw [HL.out];omega) hsz ?_;intro v1 w1 hg1 hb1)
     go_roundw
     case rel=>
      refine⟨m+1,by omega,by go_num,?_,?_,HB2.out.trans hb1⟩
      ·rw [Int.pow_succ,Int.ediv_ediv_of_nonneg (Int.le_of_lt (Int.pow_pos (by decide)))]
      ·rw [take_succ_zat _ _ (by rw [bytes8_length];exact hm8),←List.append_assoc,bytes8_zat _ _ hm8]
       exact hg1
     case measure=>simp [intOf];omega
    ·obtain rfl:m=8:=by omega
     go_wp2
     go_roundw
     case rel=>
      refine⟨k+1,by omega,by go_num,?_,hbm⟩
      rw [bytesOf_take_succ _ _ hlt]
      exact hgm.cast rfl (by rw [List.take_of_length_le (l:=bytes8 (zat l k)) (by rw [bytes8_length];omega)])
     case measure=>simp [intOf];omega
  ·obtain rfl:k=l.length:=by omega
   go_wp2
   go_ret
   exact⟨_,rfl,hgk.cast rfl (by rw [List.take_of_length_le (by omega)]),hbk⟩
end Go.Proofs.YtbpmeppdjicmhaaGreatDoor
