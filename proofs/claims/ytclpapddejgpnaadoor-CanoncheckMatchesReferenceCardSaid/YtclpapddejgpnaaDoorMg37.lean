/- The texts Budget, Arena, KcA, KcB, KcC (what is wanted of them), one after the other. -/
import Derived.Test.YtclpapddejgpnaaDoorMg36
namespace Go.Proofs.YtclpapddejgpnaaDoor
open Go.ChangeShapes Go.WideShapes Go.ChangeAt Go.RowKit
set_option linter.unusedVariables false
set_option linter.unusedSimpArgs false
set_option maxRecDepth 100000
section
attribute [local simp] AllK KnowsV look Is
set_option maxRecDepth 100000 in
theorem BStart_any (d x o:Int)(w:World):Calls Tryd.prog 19 #[.agg #[.int .i64 d,.int .i64 x,.int .i64 o]] w fun e w'=>e=.returned (.agg #[.int .i64 (startI x)])∧Below w.heap.size w w':=by
  by_cases h:x<0
  · have HS:Hid (startI x=0):=Lib.hid (by simp [startI,h])
    go_enter Tryd.func19,Tryd.ntmps19
    go_wp2
    all_goals first
      | (exfalso;omega)
      | (refine bodyPost_ret (v:=.agg #[.int .i64 0]) (by simp [results,Tryd.results19,go_sem]) rfl ⟨by rw [HS.out],?_⟩
         exact((Below.refl _ _).alloc (Nat.le_refl _) _).alloc (by simp) _)
  · have HS:Hid (startI x=x):=Lib.hid (by simp [startI,h])
    go_enter Tryd.func19,Tryd.ntmps19
    go_wp2
    all_goals first
      | (exfalso;omega)
      | (have h0:x=0:=by omega
         subst h0
         refine bodyPost_ret (v:=.agg #[.int .i64 0]) (by simp [results,Tryd.results19,go_sem]) rfl ⟨by rw [HS.out],?_⟩
         exact((Below.refl _ _).alloc (Nat.le_refl _) _).alloc (by simp) _)
      | (refine bodyPost_ret (v:=.agg #[.int .i64 x]) (by simp [results,Tryd.results19,go_sem]) rfl ⟨by rw [HS.out],?_⟩
         exact((Below.refl _ _).alloc (Nat.le_refl _) _).alloc (by simp) _)
set_option maxRecDepth 100000 in
theorem BEnter_any (dep x o d:Int)(w:World):Calls Tryd.prog 33 #[.agg #[.int .i64 dep,.int .i64 x,.int .i64 o],.int .i64 d] w fun e w'=>e=.returned (.int .i64 (enterI dep d))∧Below w.heap.size w w':=by
 by_cases h:d≤dep
 ·have HS:Hid (enterI dep d=0):=Lib.hid (by simp [enterI,h])
  go_enter Tryd.func33,Tryd.ntmps33
  go_wp2
  go_ret
  exact⟨by rw [HS.out];rfl,(Below.refl _ _).alloc (Nat.le_refl _) _⟩
 ·have HS:Hid (enterI dep d=7):=Lib.hid (by simp [enterI,h])
  go_enter Tryd.func33,Tryd.ntmps33
  go_wp2
  go_ret
  exact⟨by rw [HS.out];rfl,(Below.refl _ _).alloc (Nat.le_refl _) _⟩
set_option maxRecDepth 100000 in
theorem BTake_no (b:Nat)(m c:Int)(w:World)(hb:Blk w b #[.int .i64 m])(h:m<c):
  Calls Tryd.prog 96 #[.pointer (some ⟨b,0,none⟩),.int .i64 c] w fun e w'=>e=.returned (.bool false)∧w=w':=by
 have hc:=hb.cell
 have hf:=hb.free
 go_enter Tryd.func96,Tryd.ntmps96
 go_wp2
 go_ret
 exact⟨rfl,rfl⟩
set_option maxRecDepth 100000 in
theorem BTake_yes (b:Nat)(m c:Int)(w:World)(hb:Blk w b #[.int .i64 m])(h:¬m<c)(hm1:m≤9223372036854775807)(hc0:0≤c)(hm0:-9223372036854775808≤m):
  Calls Tryd.prog 96 #[.pointer (some ⟨b,0,none⟩),.int .i64 c] w fun e w'=>e=.returned (.bool true)∧w'=w.setCell ⟨b,0,none⟩ (.int .i64 (m-c)):=by
 have hc:=hb.cell
 have hf:=hb.free
 go_enter Tryd.func96,Tryd.ntmps96
 go_wp2
 go_ret
 exact⟨rfl,rfl⟩
set_option maxRecDepth 100000 in
theorem BCharge_any (m c:Int)(w:World)(hm0:-9223372036854775808≤m)(hm1:m≤9223372036854775807)(hc:0≤c):
  Calls Tryd.prog 82 #[.agg #[.int .i64 m],.int .i64 c] w fun e w'=>e=.returned (.tuple #[.agg #[.int .i64 (chargeI m c)],.int .i64 (chargeE m c)])∧Below w.heap.size w w':=by
 by_cases h:m<c
 ·have HS:Hid (chargeI m c=m):=Lib.hid (by simp [chargeI,h])
  have HE:Hid (chargeE m c=8):=Lib.hid (by simp [chargeE,h])
  go_enter Tryd.func82,Tryd.ntmps82
  go_wp2_with fail
  refine(BTake_no _ m c _ (Blk.new (by simp)) h).mono ?_
  rintro e w' ⟨rfl,rfl⟩
  go_wp2
  refine bodyPost_ret (v:=.tuple #[.agg #[.int .i64 m],.int .i64 8]) (by simp [results,Tryd.results82,go_sem]) rfl ⟨by rw [HS.out,HE.out],?_⟩
  exact(((Below.refl _ _).alloc (Nat.le_refl _) _).alloc (by simp) _).alloc (by simp;omega) _
 ·have HS:Hid (chargeI m c=m-c):=Lib.hid (by simp [chargeI,h])
  have HE:Hid (chargeE m c=0):=Lib.hid (by simp [chargeE,h])
  go_enter Tryd.func82,Tryd.ntmps82
  go_wp2_with fail
  refine(BTake_yes _ m c _ (Blk.new (by simp)) (by omega) hm1 hc hm0).mono ?_
  rintro e w' ⟨rfl,rfl⟩
  go_wp2
  refine bodyPost_ret (v:=.tuple #[.agg #[.int .i64 (m-c)],.int .i64 0]) (by simp [results,Tryd.results82,go_sem]) rfl ⟨by rw [HS.out,HE.out],?_⟩
  exact(((Below.refl _ _).alloc (Nat.le_refl _) _).alloc (by simp) _).alloc (by simp;omega) _
end
theorem inB_nat {ls:List (List Int)}{s a n:Int}(h:inB ls s a n=true):∃S K N:Nat,s=S∧a=K∧n=N∧S<ls.length∧K+N≤(seg ls S).length:=by
 obtain⟨h1,h2,h3,h4,h5,h6⟩:=of_decide_eq_true h
 obtain⟨S,rfl⟩:=Int.eq_ofNat_of_zero_le h1
 obtain⟨K,rfl⟩:=Int.eq_ofNat_of_zero_le h3
 obtain⟨N,rfl⟩:=Int.eq_ofNat_of_zero_le h4
 rw [Int.toNat_natCast] at h5 h6
 exact⟨S,K,N,rfl,rfl,rfl,by omega,by omega⟩
def Fits (ls:List (List Int)):Prop:=∀j,(seg ls j).length≤17592186044415
theorem AWithin_no (A:Option Addr)(c:Nat)(ls:List (List Int))(s a n:Int)(w:World)(hs:Sg w A ls)(hm:ls.length≤140737488355328)
  (hs0:-9223372036854775808≤s) (hs1:s≤9223372036854775807) (ha0:-9223372036854775808≤a) (ha1:a≤9223372036854775807) (hn0:-9223372036854775808≤n) (hn1:n≤9223372036854775807) (hh:inB ls s a n=false) :
  Calls Tryd.prog 77 #[.slice A ls.length c,.int .i64 s,.int .i64 a,.int .i64 n] w fun e w'=>e=.returned (.tuple #[.slice none 0 0,.bool false])∧w=w':=by
 have Hs:=Lib.hid hs
 have HH:=Lib.hid hh
 clear hs hh
 by_cases h1:s<0
 ·go_enter Tryd.func77,Tryd.ntmps77
  go_wp2
  go_ret2
  exact⟨rfl,rfl⟩
 by_cases h2:(ls.length:Int)≤s
 ·go_enter Tryd.func77,Tryd.ntmps77
  go_wp2
  go_ret2
  exact⟨rfl,rfl⟩
 obtain⟨k,rfl⟩:=Int.eq_ofNat_of_zero_le (by omega:0≤s)
 obtain⟨b,off,A',c',rfl,hcell,hri,-,hc1,hc2⟩:=Hs.out.one (i:=k) (by omega)
 clear hri
 have hk2:(k:Int)<(ls.length:Int):=by omega
 by_cases h3:a<0
 ·go_enter Tryd.func77,Tryd.ntmps77
  go_wp2
  go_ret2
  exact⟨rfl,rfl⟩
 by_cases h4:n<0
 ·go_enter Tryd.func77,Tryd.ntmps77
  go_wp2
  go_ret2
  exact⟨rfl,rfl⟩
 have h5:((seg ls k).length:Int)-a<n:=by
  have h:=HH.out
  unfold inB at h
  rw [decide_eq_false_iff_not,Int.toNat_natCast] at h
  omega
 go_enter Tryd.func77,Tryd.ntmps77
 go_wp2
 go_ret2
 exact⟨rfl,rfl⟩
theorem AWithin_yes (A:Option Addr)(c:Nat)(ls:List (List Int))(S K n:Nat)(w:World)(hs:Sg w A ls)(hm:ls.length≤140737488355328)(hS:S<ls.length)(hK:K+n≤(seg ls S).length)(hh:inB ls S K n=true):
  Calls Tryd.prog 77 #[.slice A ls.length c,.int .i64 S,.int .i64 K,.int .i64 n] w fun e w'=>∃A' c',e=.returned (.tuple #[.slice A' n c',.bool true])∧w=w'∧Ri w .u64 A' (sliceL ls S K n)∧n≤c'∧c'≤9223372036854775807:=by
 have HL0:=sliceL_length hh
 have HL:Hid ((sliceL ls S K n).length=n):=Lib.hid (by omega)
 have HZ:Hid (sliceL ls S K n=((seg ls S).drop K).take n):=Lib.hid (by
  unfold sliceL
  rw [Int.toNat_natCast,Int.toNat_natCast,Int.toNat_natCast])
 have Hs:=Lib.hid hs
 clear hs hh HL0
 obtain⟨b,off,A',c',rfl,hcell,hri,hno,hc1,hc2⟩:=Hs.out.one hS
 have HR:=Lib.hid hri
 clear hri
 have hS1:(S:Int)<(ls.length:Int):=by omega
 have h5:¬((seg ls S).length:Int)-K<n:=by omega
 by_cases h0:n=0
 ·subst h0
  have H0:Hid (sliceL ls S K 0=[]):=Lib.hid (List.eq_nil_of_length_eq_zero HL.out)
  clear HZ HL
  by_cases hcap:c'=K
  ·clear hno
   go_enter Tryd.func77,Tryd.ntmps77
   go_wp2
   go_ret2
   refine⟨_,_,rfl,rfl,?_,by omega⟩
   rw [H0.out]
   exact Ri.nil _ _ _
  ·cases A' with
   | none=>exact absurd (hno rfl) (by omega)
   | some p=>
    clear hno
    go_enter Tryd.func77,Tryd.ntmps77
    go_wp2
    go_ret2
    refine⟨_,_,rfl,rfl,?_,by omega⟩
    rw [H0.out]
    exact Ri.nil _ _ _
 ·obtain⟨g,o,rfl,-⟩:=HR.out.at (i:=0) (by omega)
  clear hno
  have hcap:c'≠K:=by omega
  go_enter Tryd.func77,Tryd.ntmps77
  go_wp2
  go_ret2
  refine⟨_,_,rfl,rfl,?_,by omega,by omega⟩
  rw [HZ.out]
  exact(HR.out.drop rfl).take n
theorem AInF_any (A:Option Addr)(c:Nat)(ls:List (List Int))(s a n:Int)(w:World)(hs:Sg w A ls)(hm:ls.length≤140737488355328)
  (hs0:-9223372036854775808≤s) (hs1:s≤9223372036854775807) (ha0:-9223372036854775808≤a) (ha1:a≤9223372036854775807) (hn0:-9223372036854775808≤n) (hn1:n≤9223372036854775807) :
  Calls Tryd.prog 80 #[.slice A ls.length c,.int .i64 s,.int .i64 a,.int .i64 n] w fun e w'=>e=.returned (.bool (inB ls s a n))∧w=w':=by
 cases hi:inB ls s a n with
 | true=>
  obtain⟨S,K,N,rfl,rfl,rfl,hS,hK⟩:=inB_nat hi
  have HI:=Lib.hid (AWithin_yes A c ls S K N w hs hm hS hK hi)
  clear hs hi
  go_enter Tryd.func80,Tryd.ntmps80
  go_wp2_with fail
  refine HI.out.mono ?_
  rintro e w' ⟨A',c',rfl,rfl,-,-,-⟩
  go_wp2
  go_ret
  exact⟨rfl,rfl⟩
 | false=>
  have HI:=Lib.hid (AWithin_no A c ls s a n w hs hm hs0 hs1 ha0 ha1 hn0 hn1 hi)
  clear hs hi
  go_enter Tryd.func80,Tryd.ntmps80
  go_wp2_with fail
  refine HI.out.mono ?_
  rintro e w' ⟨rfl,rfl⟩
  go_wp2
  go_ret
  exact⟨rfl,rfl⟩
theorem AIn_any (A:Option Addr)(c:Nat)(ls:List (List Int))(s a n:Int)(w:World)(hs:Sg w A ls)(hm:ls.length≤140737488355328)(hf:Fits ls)
  (hs0:-9223372036854775808≤s) (hs1:s≤9223372036854775807) (ha0:-9223372036854775808≤a) (ha1:a≤9223372036854775807) (hn0:-9223372036854775808≤n) (hn1:n≤9223372036854775807) :
  Calls Tryd.prog 80 #[.slice A ls.length c,.int .i64 s,.int .i64 a,.int .i64 n] w fun e w'=>e=.returned (.bool (inB ls s a n))∧w=w':=
 AInF_any A c ls s a n w hs hm hs0 hs1 ha0 ha1 hn0 hn1
theorem hasB_inB (ls:List (List Int))(s a:Int):hasB ls s a=inB ls s a 1:=by
 unfold hasB inB
 rw [decide_eq_decide]
 constructor<;>intro h<;>omega
theorem AWordF_any (A:Option Addr)(c:Nat)(ls:List (List Int))(s a:Int)(w:World)(hs:Sg w A ls)(hm:ls.length≤140737488355328)
  (hs0:-9223372036854775808≤s) (hs1:s≤9223372036854775807) (ha0:-9223372036854775808≤a) (ha1:a≤9223372036854775807) :
  Calls Tryd.prog 57 #[.slice A ls.length c,.int .i64 s,.int .i64 a] w fun e w'=>e=.returned (.tuple #[.int .u64 (wordV ls s a),.bool (hasB ls s a)])∧w=w':=by
 cases hi:inB ls s a 1 with
 | true=>
  have hB:hasB ls s a=true:=(hasB_inB ls s a).trans hi
  obtain⟨S,K,N,rfl,rfl,h1,hS,hK⟩:=inB_nat hi
  obtain rfl:N=1:=by omega
  have HI:=Lib.hid (AWithin_yes A c ls S K 1 w hs hm hS hK hi)
  have HV:Hid (wordV ls S K=zat (sliceL ls S K (1:Nat)) 0):=Lib.hid (by
   unfold wordV sliceL
   rw [if_pos hB,Int.toNat_natCast,Int.toNat_natCast,Int.toNat_natCast,zat_take _ _ _ (by omega),zat_drop]
   rfl)
  have HL:Hid ((sliceL ls S K (1:Nat)).length=1):=Lib.hid (by have h:=sliceL_length hi;exact Int.ofNat.inj h)
  have HB:=Lib.hid hB
  clear hs hi hB h1
  generalize wordV ls S K=x at *
  go_enter Tryd.func57,Tryd.ntmps57
  go_wp2_with fail
  refine HI.out.mono ?_
  rintro e w' ⟨A',c',rfl,rfl,hri,h2,h3⟩
  obtain⟨g,o,rfl,hw⟩:=hri.at (i:=0) (by rw [HL.out];omega)
  have hword:=hw 0 (by rw [HL.out];omega)
  rw [←HV.out,Nat.add_zero] at hword
  clear hw hri
  go_wp2
  go_ret2
  exact⟨by rw [HB.out];rfl,rfl⟩
 | false=>
  have hB:hasB ls s a=false:=(hasB_inB ls s a).trans hi
  have HV:Hid (wordV ls s a=0):=Lib.hid (by unfold wordV;rw [if_neg (by rw [hB];exact Bool.false_ne_true)])
  have HB:=Lib.hid hB
  have HI:=Lib.hid (AWithin_no A c ls s a 1 w hs hm hs0 hs1 ha0 ha1 (by omega) (by omega) hi)
  clear hs hi hB
  go_enter Tryd.func57,Tryd.ntmps57
  go_wp2_with fail
  refine HI.out.mono ?_
  rintro e w' ⟨rfl,rfl⟩
  go_wp2
  go_ret2
  exact⟨by rw [HV.out,HB.out];rfl,rfl⟩
theorem AWord_any (A:Option Addr)(c:Nat)(ls:List (List Int))(s a:Int)(w:World)(hs:Sg w A ls)(hm:ls.length≤140737488355328)(hf:Fits ls)
  (hs0:-9223372036854775808≤s) (hs1:s≤9223372036854775807) (ha0:-9223372036854775808≤a) (ha1:a≤9223372036854775807) :
  Calls Tryd.prog 57 #[.slice A ls.length c,.int .i64 s,.int .i64 a] w fun e w'=>e=.returned (.tuple #[.int .u64 (wordV ls s a),.bool (hasB ls s a)])∧w=w':=
 AWordF_any A c ls s a w hs hm hs0 hs1 ha0 ha1
section
attribute [local simp] AllK KnowsV look Is
def failK:Ending:=.panicked [{ v:=.iface 47 (.agg #[]),recovered:=false }]
theorem requireK (c:Bool)(w:World):Calls Tryd.prog 32 #[.bool c] w fun r w'=>((c=true∧r=.returned (.tuple #[]))∨(c=false∧r=failK))∧w=w':=by
 cases c
 ·go_enter Tryd.func32,Tryd.ntmps32
  go_wp2
  exact⟨rfl,by simp [failK],rfl⟩
 ·go_enter Tryd.func32,Tryd.ntmps32
  go_wp2
  go_end0
  exact⟨by simp,rfl⟩
abbrev kcB (A:Option Addr) (D X O m:Int) (x:Nat):Array Value:=#[.slice A 1 1,.int .i64 D,.int .i64 X,.int .i64 O,.int .i64 m,.int .i64 x]
def KOut (b:Nat)(A:Option Addr)(D X O:Int)(w:World)(r:Option Ks)(e:Ending)(w':World):Prop:=
 Keeps (KB b) w w'∧((∃s:Ks,r=some s∧e=.returned (.tuple #[])∧Blk w' b (kcB A D X O s.2 s.1))∨(r=none∧e=failK))
set_option maxHeartbeats 1000000 in
theorem wordK (b:Nat)(A:Option Addr)(W:List Int)(D X O m:Int)(x:Nat)(i:Int)(a:Nat)(w0 w:World)(E:EnvD b A [W] w0)(hb:Below b w0 w)(hk:Blk w b (kcB A D X O m x))(hi:i=a)(ha:a≤4611686018427387904):
  Calls Tryd.prog 29 #[.pointer (some ⟨b,0,none⟩),.int .i64 i] w fun e w'=>((a<W.length∧e=.returned (.int .u64 (zat W a)))∨(¬a<W.length∧e=failK))∧w=w':=by
 have HW:=Lib.hid (AWord_any A 1 [W] 0 i w (E.sgAt hb) E.m2 (fun j=>by have:=E.f j;omega) (by omega) (by omega) (by omega) (by omega))
 have hin:hasB [W] 0 i=decide (a<W.length):=by
  rw [hasB_inB,Bool.eq_iff_iff,inB_iff,decide_eq_true_iff]
  have:(seg [W] (0:Int).toNat).length=W.length:=rfl
  rw [this]
  simp only [List.length_singleton]
  omega
 have hv:a<W.length→wordV [W] 0 i=zat W a:=fun hl=>by rw [hi];exact one_word hl
 rw [hin] at HW
 obtain⟨x1,y1,z1⟩:=hk
 clear hb E hin
 by_cases hl:a<W.length
 ·have HV:=Lib.hid (hv hl)
  have HL:=Lib.hid hl
  rw [show decide (a<W.length)=true by simpa using hl] at HW
  clear hi hv hl
  generalize wordV [W] 0 i=z at *
  go_enter Tryd.func29,Tryd.ntmps29
  go_wp2_with fail
  refine HW.out.mono ?_
  rintro e w' ⟨rfl,rfl⟩
  clear HW
  go_wp2_with fail
  refine(requireK _ _).mono ?_
  rintro e w'' ⟨⟨he,rfl⟩|⟨he,rfl⟩,rfl⟩
  rotate_left
  ·exact absurd he (by decide)
  go_wp2
  go_ret
  exact⟨.inl ⟨HL.out,by rw [←HV.out];rfl⟩,rfl⟩
 ·have HL:=Lib.hid hl
  rw [show decide (a<W.length)=false by simpa using hl] at HW
  clear hi hv hl
  generalize wordV [W] 0 i=z at *
  go_enter Tryd.func29,Tryd.ntmps29
  go_wp2_with fail
  refine HW.out.mono ?_
  rintro e w' ⟨rfl,rfl⟩
  clear HW
  go_wp2_with fail
  refine(requireK _ _).mono ?_
  rintro e w'' ⟨⟨he,rfl⟩|⟨he,rfl⟩,rfl⟩
  ·exact absurd he (by decide)
  unfold failK
  go_wp2
  exact⟨rfl,.inr ⟨HL.out,rfl⟩,rfl⟩
set_option maxHeartbeats 1000000 in
theorem chargeK (b:Nat)(A:Option Addr)(D X O m:Int)(x:Nat)(cost:Int)(w:World)(hk:Blk w b (kcB A D X O m x))(hm0:0≤m)(hm1:m≤4611686018427387904)(hc:0≤cost):
  Calls Tryd.prog 62 #[.pointer (some ⟨b,0,none⟩),.int .i64 cost] w fun e w'=>Keeps (KB b) w w'∧((cost≤m∧e=.returned (.tuple #[])∧Blk w' b (kcB A D X O (m-cost) x))∨(m<cost∧e=failK)):=by
 have HCH:=Lib.hid (BCharge_any m cost w (by omega) (by omega) hc)
 have HK:=Lib.hid hk
 have hlt:=hk.lt
 obtain⟨x1,y1,z1⟩:=hk
 by_cases hl:m<cost
 ·have HE:Hid (chargeE m cost=8):=Lib.hid (by simp [chargeE,hl])
  have HS:Hid (chargeI m cost=m):=Lib.hid (by simp [chargeI,hl])
  have HL:=Lib.hid hl
  rw [HE.out,HS.out] at HCH
  clear hl hm0 hm1 hc
  go_enter Tryd.func62,Tryd.ntmps62
  go_wp2_with fail
  refine HCH.out.mono ?_
  rintro e w1 ⟨rfl,hb1⟩
  have HB1:=Lib.hid hb1
  clear hb1 HCH
  go_wp2_with fail
  refine(requireK _ _).mono ?_
  rintro e w'' ⟨⟨he,rfl⟩|⟨he,rfl⟩,rfl⟩
  ·exact absurd he (by decide)
  unfold failK
  go_wp2
  exact⟨rfl,keeps_alloc (keeps_of HB1.out) _,.inr ⟨HL.out,rfl⟩⟩
 ·have HE:Hid (chargeE m cost=0):=Lib.hid (by simp [chargeE,hl])
  have HS:Hid (chargeI m cost=m-cost):=Lib.hid (by simp [chargeI,hl])
  have HL:=Lib.hid hl
  rw [HE.out,HS.out] at HCH
  clear hl hm0 hm1 hc
  go_enter Tryd.func62,Tryd.ntmps62
  go_wp2_with fail
  refine HCH.out.mono ?_
  rintro e w1 ⟨rfl,hb1⟩
  have HB1:=Lib.hid hb1
  have HK1:=Lib.hid ((HK.out.below hb1).alloc (.cells #[.int .i64 (m-cost)] 51))
  have HN1:Hid (Blk (w1.alloc (.cells #[.int .i64 (m-cost)] 51)) w1.heap.size #[.int .i64 (m-cost)]):=Lib.hid (Blk.fresh _ _ _)
  have HKK:=Lib.hid (keeps_alloc (b:=b) (keeps_of hb1) (.cells #[.int .i64 (m-cost)] 51))
  clear hb1 HCH x1 y1 z1
  obtain⟨x2,y2,z2⟩:=HK1.out
  go_wp2_with fail
  refine(requireK _ _).mono ?_
  rintro e w'' ⟨⟨he,rfl⟩|⟨he,rfl⟩,rfl⟩
  rotate_left
  ·exact absurd he (by decide)
  clear he
  go_wp2
  go_end0
  refine⟨keeps_set HKK.out (.inl rfl) _,.inl ⟨by have:=HL.out;omega,rfl,?_⟩⟩
  exact HK1.out.set 4 (by simp) _
theorem wrap_aim (a o:Int)(h0:0≤a)(h1:a≤1099511627776)(h2:-536870912≤o)(h3:o≤536870911):IntKind.i64.wrap (IntKind.i64.wrap (a+1)+o)=a+1+o:=by
 have e:IntKind.i64.wrap (a+1)=a+1:=by rw [IntKind.wrap_i64];omega
 rw [e,IntKind.wrap_i64]
 omega
set_option maxHeartbeats 1000000 in
theorem takeK (b:Nat)(A:Option Addr)(W:List Int)(D X O m:Int)(x:Nat)(a n:Nat)(k o d p el c pa sg lo:Int)(db:Bool)(nI:Int)(w0 w:World)(E:EnvD b A [W] w0)(hb:Below b w0 w)(hk:Blk w b (kcB A D X O m x))(hm0:0≤m)(hm1:m≤4611686018427387904)
  (hn:nI=n) (hn1:n≤1099511627776) (ha:a≤1099511627776) (ho0:-536870912≤o) (ho1:o≤536870911) (hx:x≤20000000) :
  Calls Tryd.prog 59 #[.pointer (some ⟨b,0,none⟩),.int .i64 a,.agg #[.int .i64 k,.int .i64 o,.int .i64 d,.int .i64 p,.int .i64 el,.int .i64 c,.bool db,.int .i64 pa,.int .u32 sg,.int .u32 lo],.int .i64 nI] w fun e w'=>
   Keeps (KB b) w w'∧((kTake W.length (x,m) a o n=some (x+n,m-n)∧(x+n≤W.length∧(a:Int)+1+o=x∧(n:Int)≤m)∧e=.returned (.int .i64 x)∧Blk w' b (kcB A D X O (m-n) (x+n)))∨(kTake W.length (x,m) a o n=none∧e=failK)):=by
 have HIN:=Lib.hid (fun w2 (h:Below b w0 w2)=>AIn_any A 1 [W] 0 (x:Int) nI w2 (E.sgAt h) E.m2 (fun j=>by have:=E.f j;omega) (by omega) (by omega) (by omega) (by omega) (by omega) (by omega))
 have hin:inB [W] 0 (x:Int) nI=decide (x+n≤W.length):=by
  rw [Bool.eq_iff_iff,inB_iff,decide_eq_true_iff]
  have:(seg [W] (0:Int).toNat).length=W.length:=rfl
  rw [this]
  simp only [List.length_singleton]
  omega
 rw [hin] at HIN
 have hlt:=hk.lt
 have HB1:=Lib.hid (hb.trans (((Below.refl w.heap.size w).alloc (Nat.le_refl _) (.cells #[.int .i64 k,.int .i64 o,.int .i64 d,.int .i64 p,.int .i64 el,.int .i64 c,.bool db,.int .i64 pa,.int .u32 sg,.int .u32 lo] 65)).mono (Nat.le_of_lt hlt)))
 have HK1:=Lib.hid (hk.alloc (.cells #[.int .i64 k,.int .i64 o,.int .i64 d,.int .i64 p,.int .i64 el,.int .i64 c,.bool db,.int .i64 pa,.int .u32 sg,.int .u32 lo] 65))
 have HKK:Hid (Keeps (KB b) w (w.alloc (.cells #[.int .i64 k,.int .i64 o,.int .i64 d,.int .i64 p,.int .i64 el,.int .i64 c,.bool db,.int .i64 pa,.int .u32 sg,.int .u32 lo] 65))):=Lib.hid (keeps_alloc (Keeps.refl _ _) _)
 obtain⟨x2,y2,z2⟩:=HK1.out
 clear hb hk E hin
 have hs:=wrap_aim (a:Int) o (by omega) (by omega) ho0 ho1
 by_cases ht:(a:Int)+1+o=x
 rotate_left
 ·have HT:Hid (kTake W.length (x,m) a o n=none):=Lib.hid (by unfold kTake;rw [if_neg (fun h=>ht h.1)])
  have t1:((a:Int)+1+o==(x:Int))=false:=beq_eq_false_iff_ne.2 ht
  clear ht HIN
  go_enter Tryd.func59,Tryd.ntmps59
  go_wp2_with fail
  refine(requireK _ _).mono ?_
  rintro e w'' ⟨⟨he,rfl⟩|⟨he,rfl⟩,rfl⟩
  ·exact absurd he (by decide)
  unfold failK
  go_wp2
  exact⟨rfl,HKK.out,.inr ⟨HT.out,rfl⟩⟩
 have t1:((a:Int)+1+o==(x:Int))=true:=beq_iff_eq.2 ht
 by_cases hl:x+n≤W.length
 rotate_left
 ·have HT:Hid (kTake W.length (x,m) a o n=none):=Lib.hid (by unfold kTake;rw [if_neg (fun h=>hl h.2.1)])
  rw [show decide (x+n≤W.length)=false by simpa using hl] at HIN
  clear ht hl hn
  go_enter Tryd.func59,Tryd.ntmps59
  go_wp2_with fail
  refine(HIN.out _ HB1.out).mono ?_
  rintro e w'' ⟨rfl,rfl⟩
  go_wp2_with fail
  refine(requireK _ _).mono ?_
  rintro e w'' ⟨⟨he,rfl⟩|⟨he,rfl⟩,rfl⟩
  ·exact absurd he (by decide)
  unfold failK
  go_wp2
  exact⟨rfl,HKK.out,.inr ⟨HT.out,rfl⟩⟩
 rw [show decide (x+n≤W.length)=true by simpa using hl] at HIN
 have HT:=Lib.hid ht
 have HL:=Lib.hid hl
 have HN:=Lib.hid hn
 have HCH:=Lib.hid (fun w2 (h:Blk w2 b (kcB A D X O m x))=>chargeK b A D X O m x nI w2 h hm0 hm1 (by omega))
 have hw:IntKind.i64.wrap ((x:Int)+nI)=((x+n:Nat):Int):=by rw [IntKind.wrap_i64];omega
 clear ht hl hn
 go_enter Tryd.func59,Tryd.ntmps59
 go_wp2_with fail
 refine(HIN.out _ HB1.out).mono ?_
 rintro e w'' ⟨rfl,rfl⟩
 go_wp2_with fail
 refine(requireK _ _).mono ?_
 rintro e w'' ⟨⟨he,rfl⟩|⟨he,rfl⟩,rfl⟩
 rotate_left
 ·exact absurd he (by decide)
 clear he
 go_wp2_with fail
 refine(HCH.out _ HK1.out).mono ?_
 rintro e w3 ⟨hk3,⟨hm,rfl,hb3⟩|⟨hm,rfl⟩⟩
 ·have HT2:Hid (kTake W.length (x,m) a o n=some (x+n,m-n)):=Lib.hid (by unfold kTake;rw [if_pos ⟨HT.out,HL.out,by show (n:Int)≤m;rw [←HN.out];exact hm⟩])
  have HK3:=Lib.hid (HKK.out.trans hk3)
  have HB3:=Lib.hid hb3
  have HM:Hid ((n:Int)≤m):=Lib.hid (by rw [←HN.out];exact hm)
  clear hk3 HKK HK1 x2 y2 z2 hm
  obtain⟨x3,y3,z3⟩:=hb3
  go_wp2
  go_ret
  refine⟨keeps_set HK3.out (.inl rfl) _,.inl ⟨HT2.out,⟨HL.out,HT.out,HM.out⟩,rfl,?_⟩⟩
  have h5:=HB3.out.set 5 (by simp) (.int .i64 ((x+n:Nat):Int))
  rw [show (x:Int)+(n:Int)=((x+n:Nat):Int) by omega,←HN.out]
  exact h5
 ·have HT2:Hid (kTake W.length (x,m) a o n=none):=Lib.hid (by unfold kTake;rw [if_neg (fun h=>by have:=h.2.2;have:=HN.out;simp only at *;omega)])
  have HK3:=Lib.hid (HKK.out.trans hk3)
  unfold failK
  go_wp2
  exact⟨rfl,HK3.out,.inr ⟨HT2.out,rfl⟩⟩
set_option maxHeartbeats 1000000 in
theorem anyK (b:Nat)(A:Option Addr)(W:List Int)(D X O m:Int)(x:Nat)(aI nI dI:Int)(a n d:Nat)(w0 w:World)(E:EnvD b A [W] w0)(hb:Below b w0 w)(hk:Blk w b (kcB A D X O m x))
  (ha:aI=a) (hn:nI=n) (hd:dI=d) (ha1:a≤1099511627776) (hn1:n≤1099511627776) (hin:∀j,j<n→a+j*d<W.length) (hd1:n*d≤1099511627776) (hd2:d≤1099511627776) (bb:Bool) (hbb:bb=true↔AnyP W a n d) :
  Calls Tryd.prog 63 #[.pointer (some ⟨b,0,none⟩),.int .i64 aI,.int .i64 nI,.int .i64 dI] w fun e w'=>e=.returned (.bool bb)∧w=w':=by
 have HW:=Lib.hid (fun (i:Int) (k:Nat) (h1:i=k) (h2:k≤1099511627776+1099511627776)=>wordK b A W D X O m x i k w0 w E hb hk h1 (by omega))
 have HBB:=Lib.hid hbb
 have HIN:=Lib.hid (fun j (hj:j<n)=>hin j hj)
 have HJ:=Lib.hid (fun j (hj:j<n)=>show IntKind.i64.wrap ((j:Int)*dI)=((j*d:Nat):Int)∧j*d≤1099511627776 by
  have h1:j*d≤n*d:=Nat.mul_le_mul_right _ (by omega)
  have h2:(j:Int)*dI=((j*d:Nat):Int):=by rw [hd];simp
  rw [h2,IntKind.wrap_i64]
  omega)
 have HA:=Lib.hid ha
 have HN:=Lib.hid hn
 have hn2:nI≤1099511627776:=by omega
 have hn3:0≤nI:=by omega
 have ha2:aI≤1099511627776:=by omega
 have ha3:0≤aI:=by omega
 clear hb hk E hd1 hn1 ha1 hd2 hin hbb hd ha hn
 go_enter Tryd.func63,Tryd.ntmps63
 go_wp2
 go_loop [11,9] (fun i g=>∃j:Nat,j≤n∧i=.int .i64 j∧∀k,k<j→zat W (a+k*d)=0) (fun i _=>n-(intOf i).toNat)
 case atStart=>exact⟨0,by omega,rfl,fun k hk=>by omega⟩
 case round=>
  obtain⟨j,hj,rfl,hz⟩:=hrel
  have HZ:=Lib.hid hz
  clear hz
  by_cases hlt:j<n
  ·have hj1:(j:Int)<nI:=by rw [HN.out];omega
   obtain⟨h1,h2⟩:=HJ.out j hlt
   have hlen:=HIN.out j hlt
   obtain⟨p,hp⟩:∃p,j*d=p:=⟨_,rfl⟩
   rw [hp] at h1 h2 hlen
   obtain⟨q,hq⟩:∃q,a+p=q:=⟨_,rfl⟩
   have hs:IntKind.i64.wrap (aI+(p:Int))=(q:Int):=by rw [IntKind.wrap_i64,HA.out];have:=HA.out;omega
   have HI:=Lib.hid (HW.out (q:Int) q rfl (by have:=HA.out;omega))
   have HLT:Hid (q<W.length):=Lib.hid (by omega)
   obtain⟨z,hZ⟩:∃z,zat W q=z:=⟨_,rfl⟩
   rw [hZ] at HI
   have HQ:Hid (a+j*d=q):=Lib.hid (by rw [hp];exact hq)
   have HZZ:=Lib.hid hZ
   clear hp hq hZ hlen h2
   by_cases h0:z=0
   ·have t1:(z != 0)=false:=by simp [h0]
    have H0:=Lib.hid h0
    clear h0
    go_wp2_with fail
    refine HI.out.mono ?_
    rintro e w' ⟨⟨-,rfl⟩|⟨hn,rfl⟩,rfl⟩
    rotate_left
    ·exact absurd HLT.out hn
    go_wp2
    go_round
    case rel=>exact⟨j+1,by omega,by go_num,fun k hk=>by
     by_cases e:k=j
     ·subst e;rw [HQ.out,HZZ.out,H0.out]
     ·exact HZ.out k (by omega)⟩
    case measure=>simp [intOf];omega
   ·have t1:(z != 0)=true:=by simp [h0]
    have H0:=Lib.hid h0
    clear h0
    go_wp2_with fail
    refine HI.out.mono ?_
    rintro e w' ⟨⟨-,rfl⟩|⟨hn,rfl⟩,rfl⟩
    rotate_left
    ·exact absurd HLT.out hn
    go_wp2
    go_ret
    refine⟨?_,rfl⟩
    rw [HBB.out.2 ⟨j,hlt,by rw [HQ.out,HZZ.out];exact H0.out⟩]
    rfl
  ·obtain rfl:j=n:=by omega
   have hj1:¬(j:Int)<nI:=by rw [HN.out];omega
   go_wp2
   go_ret
   refine⟨?_,rfl⟩
   have:bb=false:=by
    cases bb with
    | false=>rfl
    | true=>
     obtain⟨k,h1,h2⟩:=HBB.out.1 rfl
     exact absurd (HZ.out k h1) h2
   rw [this]
   rfl
end
section
attribute [local simp] AllK KnowsV look Is
theorem bits_bd (e:Int):0≤bitsI e∧bitsI e≤64:=by rcases bitsI_cases e with h|h|h|h|h|h<;>rw [h]<;>decide
theorem tmod_64 (T:Int)(h:0≤T):T.tmod 64=T % 64:=Int.tmod_eq_emod_of_nonneg h
theorem keeps_drewN {b:Nat}{w w':World}(h:Keeps (KB b) w w')(n:Nat):Keeps (KB b) w (w'.drewN n):=⟨h.os,h.tape,h.output,h.size,h.block⟩
def VisL (b:Nat)(A:Option Addr)(W:List Int)(D X O:Int)(w0:World)(r:Nat):Prop:=∀(a:Nat) (s:Ks) (aI dep:Int) (w:World),aI=a→Below b w0 w→Blk w b (kcB A D X O s.2 s.1)→0≤s.2→s.2≤4611686018427387904→s.1≤W.length→a<W.length→1≤dep→dep≤901→(D-dep+1).toNat=r →
 Calls Tryd.prog 20 #[.pointer (some ⟨b,0,none⟩),.int .i64 aI,.int .i64 dep] w (KOut b A D X O w (kVis W r a s))
set_option maxHeartbeats 1000000 in
theorem visitAllK (b:Nat)(A:Option Addr)(W:List Int)(D X O:Int)(w0:World)(r:Nat)(E:EnvD b A [W] w0)(P n:Nat)(s:Ks)(PI nI dep:Int)(hV:0<n→dep≤901∧VisL b A W D X O w0 r)(w:World)(hP:PI=P)(hn:nI=n)(hb:Below b w0 w)(hk:Blk w b (kcB A D X O s.2 s.1))(hm0:0≤s.2)(hm1:s.2≤4611686018427387904)(hs:s.1≤W.length)
  (hl:P+n≤W.length) (hd0:1≤dep) (hd1:dep≤902) (hr:(D-dep+1).toNat=r) :
  Calls Tryd.prog 60 #[.pointer (some ⟨b,0,none⟩),.int .i64 PI,.int .i64 nI,.int .i64 dep] w (KOut b A D X O w (kRow (fun i=>kVis W r (P+i)) n s)):=by
 have hlen:W.length≤20000000:=E.f 0
 have hlt:=hk.lt
 obtain⟨f,hf⟩:∃f:Nat→Ks→Option Ks,f=fun i=>kVis W r (P+i):=⟨_,rfl⟩
 have HBD:=Lib.hid (fun i (t:Ks) (h:kRow f i s=some t)=>kRow_bd (L:=W.length) (f:=f) (fun i=>by subst hf;exact kVis_bd r _) i s t hs hm0 h)
 have HV:Hid (∀(j:Nat) (t:Ks) (aI:Int) (wr:World),j<n→aI=((P+j:Nat):Int)→Keeps (KB b) w wr→Blk wr b (kcB A D X O t.2 t.1)→kRow f j s=some t→Calls Tryd.prog 20 #[.pointer (some ⟨b,0,none⟩),.int .i64 aI,.int .i64 dep] wr (KOut b A D X O wr (f j t))):=Lib.hid (fun j t aI wr h1 h2 h3 h4 h5=>by
  obtain⟨g1,g2,g3⟩:=HBD.out j t h5
  obtain⟨q1,q2⟩:=hV (by omega)
  subst hf
  exact q2 (P+j) t aI dep wr h2 (hb.trans (bel_keeps h3 (Nat.le_of_lt hlt))) h4 g2 (Int.le_trans g3 hm1) g1 (by omega) hd0 q1 hr)
 have HS:Hid (kRow f 0 s=some s):=Lib.hid rfl
 have HT:=Lib.hid hk
 have HP:=Lib.hid hP
 have HN:=Lib.hid hn
 have hn2:nI≤20000000:=by omega
 have hn3:0≤nI:=by omega
 have hp2:PI≤20000000:=by omega
 have hp3:0≤PI:=by omega
 have HL:Hid (P+n≤20000000):=Lib.hid (by omega)
 rw [←hf]
 obtain⟨sx,sm⟩:=s
 obtain⟨x2,y2,z2⟩:=hk
 clear hP hn hb hm0 hm1 hs hl hd0 hd1 hr hV E hlen hlt HBD hf x2 y2 z2
 go_enter Tryd.func60,Tryd.ntmps60
 go_wp2
 go_loopw [10,8] (fun i g wr=>∃(j:Nat) (t:Ks),j≤n∧i=.int .i64 j∧kRow f j (sx,sm)=some t∧Blk wr b (kcB A D X O t.2 t.1)∧Keeps (KB b) w wr) (fun i _ _=>n-(intOf i).toNat)
 case atStart=>exact⟨0,(sx,sm),by omega,rfl,HS.out,HT.out,Keeps.refl _ _⟩
 case round=>
  clear HT HS
  obtain⟨j,t,hj,rfl,hrow,hbt,hkp⟩:=hrel
  have HW:=Lib.hid hrow
  have HT:=Lib.hid hbt
  have HK:=Lib.hid hkp
  clear hrow hbt hkp
  by_cases hlt:j<n
  ·have hj1:(j:Int)<nI:=by rw [HN.out];omega
   have hs:IntKind.i64.wrap (PI+(j:Int))=PI+j:=by rw [IntKind.wrap_i64];omega
   go_wp2_with fail
   refine(HV.out j t (PI+j) wr hlt (by rw [HP.out];omega) HK.out HT.out HW.out).mono ?_
   rintro e w4 ⟨hk4,⟨t',ht,rfl,hbt4⟩|⟨ht,rfl⟩⟩
   ·have HT4:=Lib.hid hbt4
    have HK4:=Lib.hid (HK.out.trans hk4)
    have HN4:=Lib.hid ((kRow_some HW.out).trans ht)
    clear hk4 hbt4 ht HT HK HW
    go_wp2
    go_roundw
    case rel=>exact⟨j+1,t',by omega,by go_num,HN4.out,HT4.out,HK4.out⟩
    case measure=>simp [intOf];omega
   ·have HK4:=Lib.hid (HK.out.trans hk4)
    have HN4:=Lib.hid (kRow_none ((kRow_some HW.out).trans ht) n (by omega))
    unfold failK
    go_wp2
    exact⟨rfl,HK4.out,.inr ⟨HN4.out,rfl⟩⟩
  ·obtain rfl:j=n:=by omega
   have hj1:¬(j:Int)<nI:=by rw [HN.out];omega
   go_wp2
   go_end0
   exact⟨HK.out,.inl ⟨t,HW.out,rfl,HT.out⟩⟩
end
section
attribute [local simp] AllK KnowsV look Is
set_option maxHeartbeats 2000000 in
theorem structureK (b:Nat)(A:Option Addr)(W:List Int)(D X O:Int)(w0:World)(r:Nat)(E:EnvD b A [W] w0)(a:Nat)(s:Ks)(aI o dI pI dep:Int)(d p:Nat)(hV:dep≤900∧VisL b A W D X O w0 r)(w:World)(haI:aI=a)(hdI:dI=d)(hpI:pI=p)(hb:Below b w0 w)(hk:Blk w b (kcB A D X O s.2 s.1))(hm0:0≤s.2)(hm1:s.2≤4611686018427387904)(hs:s.1≤W.length)
  (ha:a<W.length) (ho0:-536870912≤o) (ho1:o≤536870911) (hd1:d≤65535) (hp1:p≤65535) (hdep:1≤dep) (hr:(D-dep).toNat=r) :
  Calls Tryd.prog 34 #[.pointer (some ⟨b,0,none⟩),.int .i64 aI,.agg #[.int .i64 0,.int .i64 o,.int .i64 dI,.int .i64 pI,.int .i64 0,.int .i64 0,.bool false,.int .i64 0,.int .u32 0,.int .u32 0],.int .i64 dep] w (KOut b A D X O w (kStr (kVis W r) W a o d p s)):=by
 obtain⟨x,m⟩:=s
 simp only at hk hm0 hm1 hs
 have hlen:W.length≤20000000:=E.f 0
 have hlt:=hk.lt
 have HT1:=Lib.hid (hk.alloc (.cells #[.int .i64 0,.int .i64 o,.int .i64 dI,.int .i64 pI,.int .i64 0,.int .i64 0,.bool false,.int .i64 0,.int .u32 0,.int .u32 0] 65))
 have HO1:Hid (Blk (w.alloc (.cells #[.int .i64 0,.int .i64 o,.int .i64 dI,.int .i64 pI,.int .i64 0,.int .i64 0,.bool false,.int .i64 0,.int .u32 0,.int .u32 0] 65)) w.heap.size #[.int .i64 0,.int .i64 o,.int .i64 dI,.int .i64 pI,.int .i64 0,.int .i64 0,.bool false,.int .i64 0,.int .u32 0,.int .u32 0]):=Lib.hid (Blk.fresh _ _ _)
 have HK1:Hid (Keeps (KB b) w (w.alloc (.cells #[.int .i64 0,.int .i64 o,.int .i64 dI,.int .i64 pI,.int .i64 0,.int .i64 0,.bool false,.int .i64 0,.int .u32 0,.int .u32 0] 65))):=Lib.hid (keeps_alloc (Keeps.refl _ _) _)
 have HNO:Hid (¬KB b w.heap.size):=Lib.hid (by unfold KB;omega)
 have HB:=Lib.hid (fun (wr:World) (h:Keeps (KB b) w wr)=>hb.trans (bel_keeps h (Nat.le_of_lt hlt)))
 have hd2:0≤dI∧dI≤65535:=by omega
 have hp2:0≤pI∧pI≤65535:=by omega
 obtain⟨x1,y1,z1⟩:=HO1.out
 by_cases c1:d+p=0
 ·have t1:dI+pI=0:=by omega
  have t2:(dI+pI==0)=true:=beq_iff_eq.2 t1
  have hw:IntKind.i64.wrap (dI+pI)=0:=by rw [t1];decide
  have HR:Hid (kStr (kVis W r) W a o d p (x,m)=if o=-1 then some (x,m) else none):=Lib.hid (by unfold kStr;rw [if_pos c1])
  clear hV E c1 haI hdI hpI hb hk t1
  by_cases c2:o=-1
  ·have t3:(o==-1)=true:=beq_iff_eq.2 c2
   rw [if_pos c2] at HR
   clear c2
   go_enter Tryd.func34,Tryd.ntmps34
   go_wp2_with fail
   refine(requireK _ _).mono ?_
   rintro e w'' ⟨⟨he,rfl⟩|⟨he,rfl⟩,rfl⟩
   rotate_left
   ·exact absurd he (by decide)
   go_wp2
   go_end0
   exact⟨HK1.out,.inl ⟨(x,m),HR.out,rfl,HT1.out⟩⟩
  ·have t3:(o==-1)=false:=beq_eq_false_iff_ne.2 c2
   rw [if_neg c2] at HR
   clear c2
   go_enter Tryd.func34,Tryd.ntmps34
   go_wp2_with fail
   refine(requireK _ _).mono ?_
   rintro e w'' ⟨⟨he,rfl⟩|⟨he,rfl⟩,rfl⟩
   ·exact absurd he (by decide)
   unfold failK
   go_wp2
   exact⟨rfl,HK1.out,.inr ⟨HR.out,rfl⟩⟩
 have t2:(dI+pI==0)=false:=beq_eq_false_iff_ne.2 (by omega)
 have hw:IntKind.i64.wrap (dI+pI)=dI+pI:=by rw [IntKind.wrap_i64];omega
 have HTK:=Lib.hid (fun w2 h1 h2=>takeK b A W D X O m x a (d+p) 0 o dI pI 0 0 0 0 0 false (dI+pI) w0 w2 E h1 h2 hm0 hm1 (by omega) (by omega) (by omega) ho0 ho1 (by omega))
 have HWD:=Lib.hid (fun m' x' (i:Int) (k:Nat) w2 h1 h2 (h3:i=k) (h4:k≤40000000)=>wordK b A W D X O m' x' i k w0 w2 E h1 h2 h3 (by omega))
 have HVA:=Lib.hid (fun (P n:Nat) (t:Ks) (PI nI:Int) w2 h1 h2 h3 h4 h5 h6 h7 h8=>visitAllK b A W D X O w0 r E P n t PI nI (dep+1) (fun _=>⟨by omega,hV.2⟩) w2 h1 h2 h3 h4 h5 h6 h7 h8 (by omega) (by omega) (by rw [←hr];congr 1;omega))
 have hdep2:dep≤900:=hV.1
 have HA:=Lib.hid haI
 have HD:=Lib.hid hdI
 have HP:=Lib.hid hpI
 have HC:=Lib.hid c1
 have HM:=Lib.hid (And.intro hm0 hm1)
 have HLEN:=Lib.hid hlen
 rw [show (aI:Int)=(a:Int) from haI]
 clear hV E haI hdI hpI hb hk c1 hm0 hm1 hr
 go_enter Tryd.func34,Tryd.ntmps34
 go_wp2_with fail
 refine(HTK.out _ (HB.out _ HK1.out) HT1.out).mono ?_
 rintro e w3 ⟨hk3,⟨htk,⟨hl,hst,hm⟩,rfl,hb3⟩|⟨htk,rfl⟩⟩
 rotate_left
 ·have HR:Hid (kStr (kVis W r) W a o d p (x,m)=none):=Lib.hid (by unfold kStr;rw [if_neg HC.out,if_pos (.inl htk)])
  have HK3:=Lib.hid (HK1.out.trans hk3)
  unfold failK
  go_wp2
  exact⟨rfl,HK3.out,.inr ⟨HR.out,rfl⟩⟩
 have HT3:=Lib.hid hb3
 have HO3:=Lib.hid (HO1.out.keeps hk3 HNO.out)
 have HK3:=Lib.hid (HK1.out.trans hk3)
 have HTK3:=Lib.hid htk
 have HL:=Lib.hid hl
 have HM3:=Lib.hid hm
 clear htk hl hst hm hb3 hk3 HT1 HO1 HK1 HTK x1 y1 z1
 obtain⟨x3,y3,z3⟩:=HO3.out
 have hx2:(x:Int)≤20000000:=by omega
 by_cases c2:d=0
 ·have u1:(dI==0)=true:=by rw [beq_iff_eq,HD.out,c2];rfl
  have HG:Hid (¬(0<d∧zat W (x+d-1)=0)):=Lib.hid (by omega)
  clear c2
  go_wp2_with fail
  refine(requireK _ _).mono ?_
  rintro e w'' ⟨⟨he,rfl⟩|⟨he,rfl⟩,rfl⟩
  rotate_left
  ·exact absurd he (by decide)
  clear he
  by_cases c3:p=0
  ·have u2:(pI==0)=true:=by rw [beq_iff_eq,HP.out,c3];rfl
   have HG2:Hid (¬(0<p∧zat W (x+d+p-1)=0)):=Lib.hid (by omega)
   clear c3
   go_wp2_with fail
   refine(requireK _ _).mono ?_
   rintro e w'' ⟨⟨he,rfl⟩|⟨he,rfl⟩,rfl⟩
   rotate_left
   ·exact absurd he (by decide)
   clear he
   have HR:Hid (kStr (kVis W r) W a o d p (x,m)=kRow (fun i=>kVis W r (x+d+i)) p (x+(d+p),m-((d+p:Nat):Int))):=Lib.hid (by
    unfold kStr
    rw [if_neg HC.out,if_neg (by
     rintro(h|h|h)
     ·rw [HTK3.out] at h;cases h
     ·exact HG.out h
     ·exact HG2.out h)])
   go_wp2_with fail
   refine(HVA.out (x+d) p (x+(d+p),m-((d+p:Nat):Int)) _ _ w3 (by have:=HD.out;omega) HP.out (HB.out _ HK3.out) HT3.out (by have:=HM3.out;show 0≤m-((d+p:Nat):Int);omega) (by have:=HM.out;show m-((d+p:Nat):Int)≤4611686018427387904;omega) HL.out (by have:=HL.out;omega)).mono ?_
   rintro e w5 ⟨hk5,⟨t',ht,rfl,hb5⟩|⟨ht,rfl⟩⟩
   ·have HK5:=Lib.hid (HK3.out.trans hk5)
    go_wp2
    go_end0
    exact⟨HK5.out,.inl ⟨t',HR.out.trans ht,rfl,hb5⟩⟩
   ·have HK5:=Lib.hid (HK3.out.trans hk5)
    unfold failK
    go_wp2
    exact⟨rfl,HK5.out,.inr ⟨HR.out.trans ht,rfl⟩⟩
  have u2:(pI==0)=false:=beq_eq_false_iff_ne.2 (by have:=HP.out;omega)
  have HPOS:Hid (0<p):=Lib.hid (by omega)
  obtain⟨z,hz⟩:∃z,zat W (x+d+p-1)=z:=⟨_,rfl⟩
  have HZ:=Lib.hid hz
  clear c3 hz
  go_wp2_with fail
  refine(HWD.out _ _ ((x:Int)+(dI+pI)-1) (x+d+p-1) w3 (HB.out _ HK3.out) HT3.out (by have:=HD.out;have:=HP.out;have:=HPOS.out;omega) (by have:=HL.out;have:=HLEN.out;omega)).mono ?_
  rintro e w' ⟨⟨-,rfl⟩|⟨hn,rfl⟩,rfl⟩
  rotate_left
  ·exact absurd (show x+d+p-1<W.length by have:=HL.out;have:=HPOS.out;omega) hn
  rw [HZ.out]
  clear HWD
  go_wp2_with fail
  refine(IsNull_any _ _).mono ?_
  rintro e w' ⟨rfl,rfl⟩
  by_cases c4:z=0
  ·have u3:(z==0)=true:=beq_iff_eq.2 c4
   have HR:Hid (kStr (kVis W r) W a o d p (x,m)=none):=Lib.hid (by unfold kStr;rw [if_neg HC.out,if_pos (.inr (.inr ⟨HPOS.out,HZ.out.trans c4⟩))])
   clear c4
   rw [u3]
   go_wp2_with fail
   refine(requireK _ _).mono ?_
   rintro e w'' ⟨⟨he,rfl⟩|⟨he,rfl⟩,rfl⟩
   ·exact absurd he (by decide)
   unfold failK
   go_wp2
   exact⟨rfl,HK3.out,.inr ⟨HR.out,rfl⟩⟩
  have u3:(z==0)=false:=beq_eq_false_iff_ne.2 c4
  have HG2:Hid (¬(0<p∧zat W (x+d+p-1)=0)):=Lib.hid (fun h=>c4 (HZ.out.symm.trans h.2))
  clear c4
  rw [u3]
  go_wp2_with fail
  refine(requireK _ _).mono ?_
  rintro e w'' ⟨⟨he,rfl⟩|⟨he,rfl⟩,rfl⟩
  rotate_left
  ·exact absurd he (by decide)
  clear he
  have HR:Hid (kStr (kVis W r) W a o d p (x,m)=kRow (fun i=>kVis W r (x+d+i)) p (x+(d+p),m-((d+p:Nat):Int))):=Lib.hid (by
   unfold kStr
   rw [if_neg HC.out,if_neg (by
    rintro(h|h|h)
    ·rw [HTK3.out] at h;cases h
    ·exact HG.out h
    ·exact HG2.out h)])
  go_wp2_with fail
  refine(HVA.out (x+d) p (x+(d+p),m-((d+p:Nat):Int)) _ _ w3 (by have:=HD.out;omega) HP.out (HB.out _ HK3.out) HT3.out (by have:=HM3.out;show 0≤m-((d+p:Nat):Int);omega) (by have:=HM.out;show m-((d+p:Nat):Int)≤4611686018427387904;omega) HL.out (by have:=HL.out;omega)).mono ?_
  rintro e w5 ⟨hk5,⟨t',ht,rfl,hb5⟩|⟨ht,rfl⟩⟩
  ·have HK5:=Lib.hid (HK3.out.trans hk5)
   go_wp2
   go_end0
   exact⟨HK5.out,.inl ⟨t',HR.out.trans ht,rfl,hb5⟩⟩
  ·have HK5:=Lib.hid (HK3.out.trans hk5)
   unfold failK
   go_wp2
   exact⟨rfl,HK5.out,.inr ⟨HR.out.trans ht,rfl⟩⟩
 have u1:(dI==0)=false:=beq_eq_false_iff_ne.2 (by have:=HD.out;omega)
 have HPOS:Hid (0<d):=Lib.hid (by omega)
 obtain⟨z,hz⟩:∃z,zat W (x+d-1)=z:=⟨_,rfl⟩
 have HZ:=Lib.hid hz
 clear c2 hz
 go_wp2_with fail
 refine(HWD.out _ _ ((x:Int)+dI-1) (x+d-1) w3 (HB.out _ HK3.out) HT3.out (by have:=HD.out;have:=HP.out;have:=HPOS.out;omega) (by have:=HL.out;have:=HLEN.out;omega)).mono ?_
 rintro e w' ⟨⟨-,rfl⟩|⟨hn,rfl⟩,rfl⟩
 rotate_left
 ·exact absurd (show x+d-1<W.length by have:=HL.out;have:=HPOS.out;omega) hn
 rw [HZ.out]
 by_cases c4:z=0
 ·have u3:(z != 0)=false:=by simp [c4]
  have HR:Hid (kStr (kVis W r) W a o d p (x,m)=none):=Lib.hid (by unfold kStr;rw [if_neg HC.out,if_pos (.inr (.inl ⟨HPOS.out,HZ.out.trans c4⟩))])
  clear c4
  go_wp2_with fail
  refine(requireK _ _).mono ?_
  rintro e w'' ⟨⟨he,rfl⟩|⟨he,rfl⟩,rfl⟩
  ·exact absurd he (by decide)
  unfold failK
  go_wp2
  exact⟨rfl,HK3.out,.inr ⟨HR.out,rfl⟩⟩
 have u3:(z != 0)=true:=by simp [c4]
 have HG:Hid (¬(0<d∧zat W (x+d-1)=0)):=Lib.hid (fun h=>c4 (HZ.out.symm.trans h.2))
 clear c4 HZ HPOS
 go_wp2_with fail
 refine(requireK _ _).mono ?_
 rintro e w'' ⟨⟨he,rfl⟩|⟨he,rfl⟩,rfl⟩
 rotate_left
 ·exact absurd he (by decide)
 clear he
 by_cases c3:p=0
 ·have u2:(pI==0)=true:=by rw [beq_iff_eq,HP.out,c3];rfl
  have HG2:Hid (¬(0<p∧zat W (x+d+p-1)=0)):=Lib.hid (by omega)
  clear c3
  go_wp2_with fail
  refine(requireK _ _).mono ?_
  rintro e w'' ⟨⟨he,rfl⟩|⟨he,rfl⟩,rfl⟩
  rotate_left
  ·exact absurd he (by decide)
  clear he
  have HR:Hid (kStr (kVis W r) W a o d p (x,m)=kRow (fun i=>kVis W r (x+d+i)) p (x+(d+p),m-((d+p:Nat):Int))):=Lib.hid (by
   unfold kStr
   rw [if_neg HC.out,if_neg (by
    rintro(h|h|h)
    ·rw [HTK3.out] at h;cases h
    ·exact HG.out h
    ·exact HG2.out h)])
  go_wp2_with fail
  refine(HVA.out (x+d) p (x+(d+p),m-((d+p:Nat):Int)) _ _ w3 (by have:=HD.out;omega) HP.out (HB.out _ HK3.out) HT3.out (by have:=HM3.out;show 0≤m-((d+p:Nat):Int);omega) (by have:=HM.out;show m-((d+p:Nat):Int)≤4611686018427387904;omega) HL.out (by have:=HL.out;omega)).mono ?_
  rintro e w5 ⟨hk5,⟨t',ht,rfl,hb5⟩|⟨ht,rfl⟩⟩
  ·have HK5:=Lib.hid (HK3.out.trans hk5)
   go_wp2
   go_end0
   exact⟨HK5.out,.inl ⟨t',HR.out.trans ht,rfl,hb5⟩⟩
  ·have HK5:=Lib.hid (HK3.out.trans hk5)
   unfold failK
   go_wp2
   exact⟨rfl,HK5.out,.inr ⟨HR.out.trans ht,rfl⟩⟩
 have u2:(pI==0)=false:=beq_eq_false_iff_ne.2 (by have:=HP.out;omega)
 have HPOS:Hid (0<p):=Lib.hid (by omega)
 obtain⟨z,hz⟩:∃z,zat W (x+d+p-1)=z:=⟨_,rfl⟩
 have HZ:=Lib.hid hz
 clear c3 hz
 go_wp2_with fail
 refine(HWD.out _ _ ((x:Int)+(dI+pI)-1) (x+d+p-1) w3 (HB.out _ HK3.out) HT3.out (by have:=HD.out;have:=HP.out;have:=HPOS.out;omega) (by have:=HL.out;have:=HLEN.out;omega)).mono ?_
 rintro e w' ⟨⟨-,rfl⟩|⟨hn,rfl⟩,rfl⟩
 rotate_left
 ·exact absurd (show x+d+p-1<W.length by have:=HL.out;have:=HPOS.out;omega) hn
 rw [HZ.out]
 clear HWD
 go_wp2_with fail
 refine(IsNull_any _ _).mono ?_
 rintro e w' ⟨rfl,rfl⟩
 by_cases c4:z=0
 ·have u3:(z==0)=true:=beq_iff_eq.2 c4
  have HR:Hid (kStr (kVis W r) W a o d p (x,m)=none):=Lib.hid (by unfold kStr;rw [if_neg HC.out,if_pos (.inr (.inr ⟨HPOS.out,HZ.out.trans c4⟩))])
  clear c4
  rw [u3]
  go_wp2_with fail
  refine(requireK _ _).mono ?_
  rintro e w'' ⟨⟨he,rfl⟩|⟨he,rfl⟩,rfl⟩
  ·exact absurd he (by decide)
  unfold failK
  go_wp2
  exact⟨rfl,HK3.out,.inr ⟨HR.out,rfl⟩⟩
 have u3:(z==0)=false:=beq_eq_false_iff_ne.2 c4
 have HG2:Hid (¬(0<p∧zat W (x+d+p-1)=0)):=Lib.hid (fun h=>c4 (HZ.out.symm.trans h.2))
 clear c4
 rw [u3]
 go_wp2_with fail
 refine(requireK _ _).mono ?_
 rintro e w'' ⟨⟨he,rfl⟩|⟨he,rfl⟩,rfl⟩
 rotate_left
 ·exact absurd he (by decide)
 clear he
 have HR:Hid (kStr (kVis W r) W a o d p (x,m)=kRow (fun i=>kVis W r (x+d+i)) p (x+(d+p),m-((d+p:Nat):Int))):=Lib.hid (by
  unfold kStr
  rw [if_neg HC.out,if_neg (by
   rintro(h|h|h)
   ·rw [HTK3.out] at h;cases h
   ·exact HG.out h
   ·exact HG2.out h)])
 go_wp2_with fail
 refine(HVA.out (x+d) p (x+(d+p),m-((d+p:Nat):Int)) _ _ w3 (by have:=HD.out;omega) HP.out (HB.out _ HK3.out) HT3.out (by have:=HM3.out;show 0≤m-((d+p:Nat):Int);omega) (by have:=HM.out;show m-((d+p:Nat):Int)≤4611686018427387904;omega) HL.out (by have:=HL.out;omega)).mono ?_
 rintro e w5 ⟨hk5,⟨t',ht,rfl,hb5⟩|⟨ht,rfl⟩⟩
 ·have HK5:=Lib.hid (HK3.out.trans hk5)
  go_wp2
  go_end0
  exact⟨HK5.out,.inl ⟨t',HR.out.trans ht,rfl,hb5⟩⟩
 ·have HK5:=Lib.hid (HK3.out.trans hk5)
  unfold failK
  go_wp2
  exact⟨rfl,HK5.out,.inr ⟨HR.out.trans ht,rfl⟩⟩
end
end Go.Proofs.YtclpapddejgpnaaDoor
