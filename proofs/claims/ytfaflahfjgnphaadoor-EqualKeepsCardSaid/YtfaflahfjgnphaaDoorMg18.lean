/- The texts Ref07, Ref08, Arena (what is wanted of them), one after the other. -/
import Derived.Test.YtfaflahfjgnphaaDoorMg2
import Derived.Test.YtfaflahfjgnphaaDoorMg3
import Derived.Test.YtfaflahfjgnphaaDoorMg16
import Derived.Laws.CopyOwn
namespace Go.Proofs.YtfaflahfjgnphaaDoor
open Go.ChangeShapes Go.WideShapes Go.ChangeAt Go.RowKit
set_option linter.unusedVariables false
set_option linter.unusedSimpArgs false
set_option maxRecDepth 100000
theorem wordV_bd {ls:List (List Int)}(h:Wd2 ls)(s a:Int):0≤wordV ls s a∧wordV ls s a<18446744073709551616:=by
 unfold wordV
 split
 ·exact(h.at s.toNat).at a.toNat
 ·omega
structure Fol where
 w:Int
 s:Int
 b:Int
 e:Int
def folE (e:Int):Fol:=⟨0,0,0,e⟩
def followF (ls:List (List Int))(s a:Int):Fol:=
 if hasB ls s a=false then folE 2
 else if (wordV ls s a % 4==2)=false then ⟨wordV ls s a,s,a+1,0⟩
 else if hasB ls (wordV ls s a / 4294967296) (wordV ls s a % 4294967296 / 8)=false then folE 2
 else if wordV ls s a / 4 % 2=0 then
  if (wordV ls (wordV ls s a / 4294967296) (wordV ls s a % 4294967296 / 8) % 4==2)=true then folE 3
  else ⟨wordV ls (wordV ls s a / 4294967296) (wordV ls s a % 4294967296 / 8),wordV ls s a / 4294967296,wordV ls s a % 4294967296 / 8+1,0⟩
 else if hasB ls (wordV ls s a / 4294967296) (wordV ls s a % 4294967296 / 8+1)=false then folE 2
 else if (wordV ls (wordV ls s a / 4294967296) (wordV ls s a % 4294967296 / 8) % 4==2)=false∨wordV ls (wordV ls s a / 4294967296) (wordV ls s a % 4294967296 / 8) / 4 % 2=1 ∨
   1<(decP (wordV ls (wordV ls s a / 4294967296) (wordV ls s a % 4294967296 / 8+1))).k∨(decP (wordV ls (wordV ls s a / 4294967296) (wordV ls s a % 4294967296 / 8+1))).o≠0 then folE 3
 else ⟨wordV ls (wordV ls s a / 4294967296) (wordV ls s a % 4294967296 / 8+1),wordV ls (wordV ls s a / 4294967296) (wordV ls s a % 4294967296 / 8) / 4294967296,wordV ls (wordV ls s a / 4294967296) (wordV ls s a % 4294967296 / 8) % 4294967296 / 8,0⟩
theorem decP_bd (x:Int)(h0:0≤x)(h1:x<18446744073709551616):0≤(decP x).k∧(decP x).k≤3∧-536870912≤(decP x).o∧(decP x).o≤536870911∧0≤(decP x).d∧(decP x).d≤65535∧0≤(decP x).p∧(decP x).p≤65535∧0≤(decP x).el∧(decP x).el≤7∧0≤(decP x).c∧(decP x).c≤536870911∧0≤(decP x).lo:=by
 rcases decP_vld x h0 h1 with ⟨k0,a1,a2,a3,a4,a5,a6,a7,a8,a9,a10,a11,a12⟩|⟨k0,a1,a2,a3,a4,a5,a6,a7,a8,a9,a10,a11,a12⟩|⟨k0,a1,a2,a3,a4,a5,a6,a7,a8,a9,a10⟩|⟨k0,a1,a2,a3,a4,a5,a6,a7,a8,a9,a10,a11⟩<;>omega
theorem followF_bd {ls:List (List Int)}(hw:Wd2 ls)(hm:ls.length≤140737488355328)(hf:∀j,(seg ls j).length≤140737488355328)(s a:Int):
  0≤(followF ls s a).w∧(followF ls s a).w<18446744073709551616∧0≤(followF ls s a).s∧(followF ls s a).s≤140737488355328∧0≤(followF ls s a).b∧(followF ls s a).b≤140737488355329:=by
 have q1:=wordV_bd hw s a
 have q2:=wordV_bd hw (wordV ls s a / 4294967296) (wordV ls s a % 4294967296 / 8)
 have q3:=wordV_bd hw (wordV ls s a / 4294967296) (wordV ls s a % 4294967296 / 8+1)
 unfold followF
 split
 ·simp [folE]
 ·rename_i h1
  have h1':hasB ls s a=true:=by simpa using h1
  unfold hasB at h1'
  have h7:=of_decide_eq_true h1'
  have h8:=hf s.toNat
  split
  ·simp only;omega
  ·split
   ·simp [folE]
   ·split
    ·split
     ·simp [folE]
     ·simp only;omega
    ·split
     ·simp [folE]
     ·split
      ·simp [folE]
      ·simp only;omega
structure Ob where
 k:Int
 sg:Int
 at':Int
 d:Int
 p:Int
 el:Int
 n:Int
 cost:Int
def ob0:Ob:=⟨0,0,0,0,0,0,0,0⟩
def compF (ls:List (List Int))(s st c cost:Int):Ob×Int:=
 if (decP (wordV ls s st)).k≠0∨(decP (wordV ls s st)).o<0∨c<(decP (wordV ls s st)).o*((decP (wordV ls s st)).d+(decP (wordV ls s st)).p) then (ob0,5)
 else (⟨2,s,st+1,(decP (wordV ls s st)).d,(decP (wordV ls s st)).p,7,(decP (wordV ls s st)).o,if (decP (wordV ls s st)).d+(decP (wordV ls s st)).p=0 then cost+(decP (wordV ls s st)).o else cost⟩,0)
def objP (ls:List (List Int))(q:Ptr)(s b:Int):Ob×Int:=
 if q.k=3 then (ob0,if q.lo=0 then 6 else 4)
 else if q.k=0 then (if inB ls s (b+q.o) (q.d+q.p)=true then (⟨1,s,b+q.o,q.d,q.p,0,0,q.d+q.p⟩,0) else (ob0,2))
 else if inB ls s (b+q.o) (wordsI q.el q.c)=false then (ob0,2)
 else if q.el=7 then compF ls s (b+q.o) q.c (wordsI q.el q.c)
 else (⟨2,s,b+q.o,0,0,q.el,q.c,wordsI q.el q.c⟩,0)
def objF (ls:List (List Int))(s a:Int):Ob×Int:=
 if (followF ls s a).e≠0∨(followF ls s a).w=0 then (ob0,(followF ls s a).e)
 else objP ls (decP (followF ls s a).w) (followF ls s a).s (followF ls s a).b
theorem Sg.alloc {w:World}{A:Option Addr}{ls:List (List Int)}(h:Sg w A ls)(o:Obj):Sg (w.alloc o) A ls:=h.below ((Below.refl _ _).alloc (Nat.le_refl _) o) (Nat.le_refl _)
def sliceX (ls:List (List Int))(s a n:Int):List Int:=if inB ls s a n then sliceL ls s a n else []
theorem inB_nat {ls:List (List Int)}{s a n:Int}(h:inB ls s a n=true):∃S K N:Nat,s=S∧a=K∧n=N∧S<ls.length∧K+N≤(seg ls S).length:=by
 obtain⟨h1,h2,h3,h4,h5,h6⟩:=of_decide_eq_true h
 obtain⟨S,rfl⟩:=Int.eq_ofNat_of_zero_le h1
 obtain⟨K,rfl⟩:=Int.eq_ofNat_of_zero_le h3
 obtain⟨N,rfl⟩:=Int.eq_ofNat_of_zero_le h4
 rw [Int.toNat_natCast] at h5 h6
 exact⟨S,K,N,rfl,rfl,rfl,by omega,by omega⟩
def Fits (ls:List (List Int)):Prop:=∀j,(seg ls j).length≤17592186044415
theorem got_block {w:World}{base:Nat}{E:TypeId}{k:IntKind}{g n:Nat}{zs:List Int}(h:Got w base E k (.slice (some ⟨g,0,none⟩) n n) zs)(hl:zs.length=n):w.heap[g]?=some (.cells (zs.map (Value.int k)).toArray E (0,0)):=by
 obtain⟨h1,h2⟩:=h
 rcases h2 with ⟨h3,_⟩|⟨g',cap,cur,h3,h4,h5,h6,h7,h8,h9⟩
 ·injection h3 with e;cases e
 ·injection h3 with e1 e2 e3
  injection e1 with e1
  injection e1 with e1
  subst e1
  subst e3
  rw [h5,←h9,List.take_of_length_le (by rw [Array.length_toList];omega)]
theorem got_of_block {w:World}{base:Nat}{E:TypeId}{k:IntKind}{g n:Nat}{zs:List Int}(h:w.heap[g]?=some (.cells (zs.map (Value.int k)).toArray E (0,0)))(hb:base≤g)(hl:zs.length=n)(hm:n≤maxLen):Got w base E k (.slice (some ⟨g,0,none⟩) n n) zs:=by
 subst hl
 refine⟨by simp,.inr ⟨g,zs.length,_,rfl,hb,h,Nat.le_refl _,hm,by simp,?_⟩⟩
 rw [List.take_of_length_le (by simp)]
theorem splice_whole {α:Type}{L cs:List α}(h:cs.length=L.length):Go.splice L 0 cs=cs:=by
 simp [Go.splice,h]
theorem one_cells (k:IntKind)(zs:List Int):∀v∈zs.map (Value.int k),v.oneCell'=true:=by
 intro v hv
 obtain⟨z,_,rfl⟩:=List.mem_map.1 hv
 rfl
theorem copy_src {w:World}{k:IntKind}{A:Option Addr}{zs:List Int}{dp:Option Addr}{g:Nat}(h:Ri w k A zs)(hd:dp=some ⟨g,0,none⟩):0<(zs.map (Value.int k)).length→dp=some ⟨g,0,none⟩∧∃ad,A=some ad∧∀j v,(zs.map (Value.int k))[j]?=some v→w.cell? (ad.add j)=some v:=by
 intro h0
 rw [List.length_map] at h0
 obtain⟨b,off,rfl,hw⟩:=h.at h0
 refine⟨hd,_,rfl,fun j v hv=>?_⟩
 rw [List.getElem?_map] at hv
 cases hz:zs[j]? with
 | none=>rw [hz] at hv;cases hv
 | some z=>
  rw [hz] at hv
  have hj:j<zs.length:=by
   rcases Nat.lt_or_ge j zs.length with hlt|hge
   ·exact hlt
   ·rw [List.getElem?_eq_none hge] at hz;cases hz
  have e:v=Value.int k z:=(Option.some.inj hv).symm
  have:=hw j hj
  simp only [zat,List.getD_eq_getElem?_getD,hz,Option.getD_some] at this
  rw [e,←this]
  unfold Addr.add
  by_cases h1:j=0
  ·subst h1;rfl
  ·rw [if_neg h1]
theorem AWithin_no (A:Option Addr)(c:Nat)(ls:List (List Int))(s a n:Int)(w:World)(hs:Sg w A ls)(hm:ls.length≤140737488355328)
  (hs0:-9223372036854775808≤s) (hs1:s≤9223372036854775807) (ha0:-9223372036854775808≤a) (ha1:a≤9223372036854775807) (hn0:-9223372036854775808≤n) (hn1:n≤9223372036854775807) (hh:inB ls s a n=false) :
  Calls Tryd.prog 64 #[.slice A ls.length c,.int .i64 s,.int .i64 a,.int .i64 n] w fun e w'=>e=.returned (.tuple #[.slice none 0 0,.bool false])∧w=w':=by
 have Hs:=Lib.hid hs
 have HH:=Lib.hid hh
 clear hs hh
 by_cases h1:s<0
 ·go_enter Tryd.func64,Tryd.ntmps64
  go_wp2
  go_ret2
  exact⟨rfl,rfl⟩
 by_cases h2:(ls.length:Int)≤s
 ·go_enter Tryd.func64,Tryd.ntmps64
  go_wp2
  go_ret2
  exact⟨rfl,rfl⟩
 obtain⟨k,rfl⟩:=Int.eq_ofNat_of_zero_le (by omega:0≤s)
 obtain⟨b,off,A',c',rfl,hcell,hri,-,hc1,hc2⟩:=Hs.out.one (i:=k) (by omega)
 clear hri
 have hk2:(k:Int)<(ls.length:Int):=by omega
 by_cases h3:a<0
 ·go_enter Tryd.func64,Tryd.ntmps64
  go_wp2
  go_ret2
  exact⟨rfl,rfl⟩
 by_cases h4:n<0
 ·go_enter Tryd.func64,Tryd.ntmps64
  go_wp2
  go_ret2
  exact⟨rfl,rfl⟩
 have h5:((seg ls k).length:Int)-a<n:=by
  have h:=HH.out
  unfold inB at h
  rw [decide_eq_false_iff_not,Int.toNat_natCast] at h
  omega
 go_enter Tryd.func64,Tryd.ntmps64
 go_wp2
 go_ret2
 exact⟨rfl,rfl⟩
theorem AWithin_yes (A:Option Addr)(c:Nat)(ls:List (List Int))(S K n:Nat)(w:World)(hs:Sg w A ls)(hm:ls.length≤140737488355328)(hS:S<ls.length)(hK:K+n≤(seg ls S).length)(hh:inB ls S K n=true):
  Calls Tryd.prog 64 #[.slice A ls.length c,.int .i64 S,.int .i64 K,.int .i64 n] w fun e w'=>∃A' c',e=.returned (.tuple #[.slice A' n c',.bool true])∧w=w'∧Ri w .u64 A' (sliceL ls S K n)∧n≤c'∧c'≤9223372036854775807:=by
 have HL0:=sliceL_length hh
 have HL:Hid ((sliceL ls S K n).length=n):=Lib.hid (by omega)
 have HZ:Hid (sliceL ls S K n=((seg ls S).drop K).take n):=Lib.hid (by
  unfold sliceL
  rw [Int.toNat_natCast,Int.toNat_natCast,Int.toNat_natCast])
 have Hs:=Lib.hid hs
 clear hs hh HL0
 obtain⟨b,off,A',c',rfl,hcell,hri,hno,hc1,hc2⟩:=Hs.out.one hS
 have HR:=Lib.hid hri
 clear hri
 have hS1:(S:Int)<(ls.length:Int):=by omega
 have h5:¬((seg ls S).length:Int)-K<n:=by omega
 by_cases h0:n=0
 ·subst h0
  have H0:Hid (sliceL ls S K 0=[]):=Lib.hid (List.eq_nil_of_length_eq_zero HL.out)
  clear HZ HL
  by_cases hcap:c'=K
  ·clear hno
   go_enter Tryd.func64,Tryd.ntmps64
   go_wp2
   go_ret2
   refine⟨_,_,rfl,rfl,?_,by omega⟩
   rw [H0.out]
   exact Ri.nil _ _ _
  ·cases A' with
   | none=>exact absurd (hno rfl) (by omega)
   | some p=>
    clear hno
    go_enter Tryd.func64,Tryd.ntmps64
    go_wp2
    go_ret2
    refine⟨_,_,rfl,rfl,?_,by omega⟩
    rw [H0.out]
    exact Ri.nil _ _ _
 ·obtain⟨g,o,rfl,-⟩:=HR.out.at (i:=0) (by omega)
  clear hno
  have hcap:c'≠K:=by omega
  go_enter Tryd.func64,Tryd.ntmps64
  go_wp2
  go_ret2
  refine⟨_,_,rfl,rfl,?_,by omega,by omega⟩
  rw [HZ.out]
  exact(HR.out.drop rfl).take n
theorem AInF_any (A:Option Addr)(c:Nat)(ls:List (List Int))(s a n:Int)(w:World)(hs:Sg w A ls)(hm:ls.length≤140737488355328)
  (hs0:-9223372036854775808≤s) (hs1:s≤9223372036854775807) (ha0:-9223372036854775808≤a) (ha1:a≤9223372036854775807) (hn0:-9223372036854775808≤n) (hn1:n≤9223372036854775807) :
  Calls Tryd.prog 83 #[.slice A ls.length c,.int .i64 s,.int .i64 a,.int .i64 n] w fun e w'=>e=.returned (.bool (inB ls s a n))∧w=w':=by
 cases hi:inB ls s a n with
 | true=>
  obtain⟨S,K,N,rfl,rfl,rfl,hS,hK⟩:=inB_nat hi
  have HI:=Lib.hid (AWithin_yes A c ls S K N w hs hm hS hK hi)
  clear hs hi
  go_enter Tryd.func83,Tryd.ntmps83
  go_wp2_with fail
  refine HI.out.mono ?_
  rintro e w' ⟨A',c',rfl,rfl,-,-,-⟩
  go_wp2
  go_ret
  exact⟨rfl,rfl⟩
 | false=>
  have HI:=Lib.hid (AWithin_no A c ls s a n w hs hm hs0 hs1 ha0 ha1 hn0 hn1 hi)
  clear hs hi
  go_enter Tryd.func83,Tryd.ntmps83
  go_wp2_with fail
  refine HI.out.mono ?_
  rintro e w' ⟨rfl,rfl⟩
  go_wp2
  go_ret
  exact⟨rfl,rfl⟩
theorem hasB_inB (ls:List (List Int))(s a:Int):hasB ls s a=inB ls s a 1:=by
 unfold hasB inB
 rw [decide_eq_decide]
 constructor<;>intro h<;>omega
theorem AWordF_any (A:Option Addr)(c:Nat)(ls:List (List Int))(s a:Int)(w:World)(hs:Sg w A ls)(hm:ls.length≤140737488355328)
  (hs0:-9223372036854775808≤s) (hs1:s≤9223372036854775807) (ha0:-9223372036854775808≤a) (ha1:a≤9223372036854775807) :
  Calls Tryd.prog 52 #[.slice A ls.length c,.int .i64 s,.int .i64 a] w fun e w'=>e=.returned (.tuple #[.int .u64 (wordV ls s a),.bool (hasB ls s a)])∧w=w':=by
 cases hi:inB ls s a 1 with
 | true=>
  have hB:hasB ls s a=true:=(hasB_inB ls s a).trans hi
  obtain⟨S,K,N,rfl,rfl,h1,hS,hK⟩:=inB_nat hi
  obtain rfl:N=1:=by omega
  have HI:=Lib.hid (AWithin_yes A c ls S K 1 w hs hm hS hK hi)
  have HV:Hid (wordV ls S K=zat (sliceL ls S K (1:Nat)) 0):=Lib.hid (by
   unfold wordV sliceL
   rw [if_pos hB,Int.toNat_natCast,Int.toNat_natCast,Int.toNat_natCast,zat_take _ _ _ (by omega),zat_drop]
   rfl)
  have HL:Hid ((sliceL ls S K (1:Nat)).length=1):=Lib.hid (by have h:=sliceL_length hi;exact Int.ofNat.inj h)
  have HB:=Lib.hid hB
  clear hs hi hB h1
  generalize wordV ls S K=x at *
  go_enter Tryd.func52,Tryd.ntmps52
  go_wp2_with fail
  refine HI.out.mono ?_
  rintro e w' ⟨A',c',rfl,rfl,hri,h2,h3⟩
  obtain⟨g,o,rfl,hw⟩:=hri.at (i:=0) (by rw [HL.out];omega)
  have hword:=hw 0 (by rw [HL.out];omega)
  rw [←HV.out,Nat.add_zero] at hword
  clear hw hri
  go_wp2
  go_ret2
  exact⟨by rw [HB.out];rfl,rfl⟩
 | false=>
  have hB:hasB ls s a=false:=(hasB_inB ls s a).trans hi
  have HV:Hid (wordV ls s a=0):=Lib.hid (by unfold wordV;rw [if_neg (by rw [hB];exact Bool.false_ne_true)])
  have HB:=Lib.hid hB
  have HI:=Lib.hid (AWithin_no A c ls s a 1 w hs hm hs0 hs1 ha0 ha1 (by omega) (by omega) hi)
  clear hs hi hB
  go_enter Tryd.func52,Tryd.ntmps52
  go_wp2_with fail
  refine HI.out.mono ?_
  rintro e w' ⟨rfl,rfl⟩
  go_wp2
  go_ret2
  exact⟨by rw [HV.out,HB.out];rfl,rfl⟩
theorem AWord_any (A:Option Addr)(c:Nat)(ls:List (List Int))(s a:Int)(w:World)(hs:Sg w A ls)(hm:ls.length≤140737488355328)(hf:Fits ls)
  (hs0:-9223372036854775808≤s) (hs1:s≤9223372036854775807) (ha0:-9223372036854775808≤a) (ha1:a≤9223372036854775807) :
  Calls Tryd.prog 52 #[.slice A ls.length c,.int .i64 s,.int .i64 a] w fun e w'=>e=.returned (.tuple #[.int .u64 (wordV ls s a),.bool (hasB ls s a)])∧w=w':=
 AWordF_any A c ls s a w hs hm hs0 hs1 ha0 ha1
set_option maxRecDepth 100000 in
theorem ASlice_any (A:Option Addr)(c:Nat)(ls:List (List Int))(s a n:Int)(w:World)(hs:Sg w A ls)(hm:ls.length≤140737488355328)(hf:Fits ls)
    (hs0:-9223372036854775808≤s) (hs1:s≤9223372036854775807) (ha0:-9223372036854775808≤a) (ha1:a≤9223372036854775807) (hn0:-9223372036854775808≤n) (hn1:n≤9223372036854775807) :
    Calls Tryd.prog 50 #[.slice A ls.length c,.int .i64 s,.int .i64 a,.int .i64 n] w fun e w'=>∃v,e=.returned (.tuple #[v,.bool (inB ls s a n)])∧Got w' w.heap.size 32 .u64 v (sliceX ls s a n)∧Below w.heap.size w w':=by
  cases hi:inB ls s a n with
  | true=>
    obtain⟨S,K,N,rfl,rfl,rfl,hS,hK⟩:=inB_nat hi
    obtain⟨i0,hi0,hz0,hz1,hz2⟩:=info_parts int64_info
    have hN:=hf S
    have HI:=Lib.hid (AWithin_yes A c ls S K N w hs hm hS hK hi)
    have HX:Hid (sliceX ls S K N=sliceL ls S K N):=Lib.hid (by unfold sliceX;rw [if_pos hi])
    have HL:Hid ((sliceL ls S K N).length=N):=Lib.hid (by have:=sliceL_length hi;omega)
    clear hs hi hf
    generalize sliceL ls S K N=xs at *
    go_enter Tryd.func50,Tryd.ntmps50
    go_wp2_with fail
    refine HI.out.mono ?_
    rintro e w' ⟨A',c',rfl,rfl,hri,h2,h3⟩
    have HR:=Lib.hid hri
    clear hri
    go_wp2_with (first
      | (at_make;refine wpList_make_full _ rfl _ _ 31 rfl w.heap.size 32 i0 (.int .u64 0) 1 Tryd.underlying31 hi0 hz0 hz1 .i64 .i64 _ _ N rfl rfl (by omega) (by omega) (by rw [hz2];omega) (by unfold maxLen;omega) (Nat.le_refl _) ?_;intro w0 hown0 hgrow0
         have hb0:Below w.heap.size w w0:=(Below.refl _ _).grown hgrow0 (Nat.le_refl _) (by simp)
         have HBK:=Lib.hid (got_block (got_made hown0) (List.length_replicate ..))
         have HRC:=Lib.hid (HR.out.below hb0 (Nat.le_refl _))
         have HB0:=Lib.hid hb0
         clear hown0 hgrow0 hb0)
      | (refine wpList_copy_splice rfl (.tmp 26) (.tmp 27) 31 31 rfl 32 rfl rfl _ _ _ _ _ _ rfl rfl w.heap.size 0 _ _ HBK.out (xs.map (Value.int .u64)) (by rw [List.length_map,HL.out];exact(Nat.min_self N).symm) (copy_src HRC.out rfl) (by rw [List.length_map,List.length_map,List.length_replicate,HL.out];omega) (one_cells _ _) w.heap.size w HB0.out (Nat.le_refl _) ?_;intro w2 HG2 hB2))
    go_ret2
    refine⟨_,rfl,?_,hB2⟩
    rw [HX.out]
    refine(got_of_block (n:=N) ?_ (Nat.le_refl _) HL.out (by unfold maxLen;omega))
    have h:=HG2.out
    rw [splice_whole (by rw [List.length_map,List.length_map,List.length_replicate,HL.out])] at h
    exact h
  | false=>
    have HI:=Lib.hid (AWithin_no A c ls s a n w hs hm hs0 hs1 ha0 ha1 hn0 hn1 hi)
    have HX:Hid (sliceX ls s a n=[]):=Lib.hid (by unfold sliceX;rw [if_neg (by rw [hi];exact Bool.false_ne_true)])
    clear hs hi hf
    go_enter Tryd.func50,Tryd.ntmps50
    go_wp2_with fail
    refine HI.out.mono ?_
    rintro e w' ⟨rfl,rfl⟩
    go_wp2
    go_ret2
    exact⟨_,rfl,by rw [HX.out];exact Got.empty _ _ _ _,Below.refl _ _⟩
end Go.Proofs.YtfaflahfjgnphaaDoor
