/- The texts TabL, Ref10d, DenA, DenH, Ref15 (what is wanted of them), one after the other. -/
import Derived.Test.YtfaflahfjgnphaaDoorMg8
import Derived.Test.YtfaflahfjgnphaaDoorMg13
import Derived.Test.YtfaflahfjgnphaaDoorMg35
import Derived.Test.YtfaflahfjgnphaaDoorCards
import Derived.Test.YtfaflahfjgnphaaDoorTie
import Derived.Deep.DeepHandedRow
import Derived.Lib.LaidTab
import Derived.Recover
namespace Go.Proofs.YtfaflahfjgnphaaDoor
open Go.ChangeShapes Go.WideShapes Go.ChangeAt Go.RowKit
set_option linter.unusedVariables false
set_option linter.unusedSimpArgs false
set_option maxRecDepth 100000
theorem gTab : Tryd.prog.globalNamed "capnp/listsize.elementBits" = some 0 := by kernel_rfl
theorem gTabType:(Tryd.prog.globals[0]?).map (·.type)=some 93:=by kernel_rfl
theorem cellsTab:Tryd.prog.cellsOf 93=8:=by kernel_rfl
theorem cellsInt:Tryd.prog.cellsOf 3=1:=by kernel_rfl
theorem tab_laid {W : World} (h : laidMetH Tryd.prog [("capnp/listsize.elementBits", Rows.laid_capnp_listsize_elementBits)] W) : TabOK W := by
 have hT : Lib.TabIs Tryd.prog W "capnp/listsize.elementBits" .i64 elemZ := Lib.tabIs_of_head (rest := []) gTab gTabType Tryd.underlying93 Tryd.underlying3 cellsInt cellsTab h
 exact fun i hi=>hT.cell gTab i hi
noncomputable def laidWorld (os:Os):World:=
 { World.holding Tryd.prog os ⟨#[],#[],[]⟩ with heap:=(World.holding Tryd.prog os ⟨#[],#[],[]⟩).heap.modify 0 fun
   | .cells _ t frozen=>.cells #[.int .i64 0,.int .i64 1,.int .i64 8,.int .i64 16,.int .i64 32,.int .i64 64,.int .i64 64,.int .i64 0] t frozen
   | o=>o }
section
attribute [local simp] AllK KnowsV look Is
theorem abs_code10 {P:Program}{C:Code}{Q:Exit→Act→World→Prop}{a:Act}{V:World}(F:World→Prop)(hF:F V)(h:∀W,F W→C.wp P Q a W):C.wp P Q a V:=h V hF
end
section
attribute [local simp] AllK KnowsV look Is
def failE (e:Int):Ending:=.panicked [{ v:=.iface 62 (.agg #[.int .i64 e]),recovered:=false }]
theorem requireD (e:Int)(w:World):Calls Tryd.prog 47 #[.int .i64 e] w fun r w'=>((e=0∧r=.returned (.tuple #[]))∨(e≠0∧r=failE e))∧w=w':=by
 by_cases h:e=0
 ·subst h
  go_enter Tryd.func47,Tryd.ntmps47
  go_wp2
  go_end0
  exact⟨by simp,rfl⟩
 ·have t1:(e != 0)=true:=by simpa using h
  go_enter Tryd.func47,Tryd.ntmps47
  go_wp2
  exact⟨rfl,.inr ⟨h,rfl⟩,rfl⟩
theorem bel_undrew {w wc:World}(h:Below w.drew.heap.size w.drew wc):Below w.heap.size w wc:=⟨h.os,h.tape,h.output,h.size,h.block⟩
structure EnvD (b:Nat) (A:Option Addr) (ls:List (List Int)) (w0:World):Prop where
 sg:Sg w0 A ls
 tab:TabOK w0
 b0:w0.heap.size≤b
 wd:Wd2 ls
 m:ls.length≤40
 f:∀j,(seg ls j).length≤20000000
theorem EnvD.sgAt {b:Nat}{A:Option Addr}{ls:List (List Int)}{w0 w:World}(E:EnvD b A ls w0)(hb:Below b w0 w):Sg w A ls:=E.sg.below hb E.b0
theorem EnvD.tabAt {b:Nat}{A:Option Addr}{ls:List (List Int)}{w0 w:World}(E:EnvD b A ls w0)(hb:Below b w0 w):TabOK w:=E.tab.below hb E.b0
theorem EnvD.m2 {b:Nat}{A:Option Addr}{ls:List (List Int)}{w0:World}(E:EnvD b A ls w0):ls.length≤140737488355328:=by have:=E.m;omega
theorem EnvD.f2 {b:Nat}{A:Option Addr}{ls:List (List Int)}{w0:World}(E:EnvD b A ls w0):∀j,(seg ls j).length≤140737488355328:=fun j=>by have:=E.f j;omega
def obV (o:Ob):Value:=.agg #[.int .i64 o.k,.int .i64 o.sg,.int .i64 o.at',.int .i64 o.d,.int .i64 o.p,.int .i64 o.el,.int .i64 o.n,.int .i64 o.cost]
set_option maxHeartbeats 4000000 in
theorem object_walk (b:Nat)(A:Option Addr)(n c:Nat)(D X O m s a dep:Int)(q:Fol)(r:Ob×Int)(w0 w:World)(hb:Below b w0 w)(hk:Blk w b #[.slice A n c,.int .i64 D,.int .i64 X,.int .i64 O,.int .i64 m])
  (HFOL:Hid (∀w2,Below b w0 w2→Calls Tryd.prog 42 #[.slice A n c,.int .i64 s,.int .i64 a] w2 fun e w'=>e=.returned (.tuple #[.int .u64 q.w,.int .i64 q.s,.int .i64 q.b,.int .i64 q.e])∧Below w2.heap.size w2 w'))
  (HOBJ:Hid (∀w2,Below b w0 w2→Calls Tryd.prog 28 #[.slice A n c,.int .i64 s,.int .i64 a] w2 fun e w'=>e=.returned (.tuple #[.agg #[.int .i64 r.1.k,.int .i64 r.1.sg,.int .i64 r.1.at',.int .i64 r.1.d,.int .i64 r.1.p,.int .i64 r.1.el,.int .i64 r.1.n,.int .i64 r.1.cost],.int .i64 r.2])∧Below w2.heap.size w2 w'))
  (HCH0:Hid (∀w2,Calls Tryd.prog 49 #[.agg #[.int .i64 m],.int .i64 r.1.cost] w2 fun e w'=>e=.returned (.tuple #[.agg #[.int .i64 (chargeI m r.1.cost)],.int .i64 (chargeE m r.1.cost)])∧Below w2.heap.size w2 w')) :
  Calls Tryd.prog 33 #[.pointer (some ⟨b,0,none⟩),.int .i64 s,.int .i64 a,.int .i64 dep] w fun e w'=>Keeps (KB b) w w'∧Blk w' b #[.slice A n c,.int .i64 D,.int .i64 X,.int .i64 O,.int .i64 (locQ q r D m dep).m] ∧
   (((locQ q r D m dep).e=0∧e=.returned (obV (locQ q r D m dep).o))∨((locQ q r D m dep).e≠0∧e=failE (locQ q r D m dep).e)):=by
 have hlt:=hk.lt
 have HB:=Lib.hid (fun (w2:World) (h:Below w.heap.size w w2)=>hb.trans (h.mono (Nat.le_of_lt hlt)))
 have HL:Hid (b<w.heap.size):=Lib.hid hlt
 have H1:=hk.alloc (.cells #[.int .i64 0,.int .i64 0,.int .i64 0,.int .i64 0,.int .i64 0,.int .i64 0,.int .i64 0,.int .i64 0] 45)
 have O1:=Lib.hid (Blk.fresh w #[.int .i64 0,.int .i64 0,.int .i64 0,.int .i64 0,.int .i64 0,.int .i64 0,.int .i64 0,.int .i64 0] 45)
 have B1:=Lib.hid ((Below.refl w.heap.size w).alloc (Nat.le_refl _) (.cells #[.int .i64 0,.int .i64 0,.int .i64 0,.int .i64 0,.int .i64 0,.int .i64 0,.int .i64 0,.int .i64 0] 45))
 have T1:=Lib.hid H1
 obtain⟨x1,y1,z1⟩:=H1
 clear hb hk hlt
 go_enter Tryd.func33,Tryd.ntmps33
 go_wp2_with fail
 refine(HFOL.out _ (HB.out _ B1.out)).mono ?_
 rintro e w1 ⟨rfl,hb1⟩
 have T2:=Lib.hid (T1.out.below hb1)
 have O2:=Lib.hid (O1.out.below hb1)
 have B2:Hid (Below w.heap.size w w1):=Lib.hid (bel_on B1.out hb1)
 clear T1 O1 B1 hb1 x1 y1 z1
 go_wp2_with fail
 refine(requireD _ _).mono ?_
 rintro e w' ⟨⟨he,rfl⟩|⟨he,rfl⟩,rfl⟩
 rotate_left
 ·unfold failE
  go_wp2
  have hL:locQ q r D m dep=⟨ob0,m,q.e⟩:=by unfold locQ;rw [if_pos (.inl he)]
  rw [hL]
  exact⟨rfl,keeps_of B2.out,T2.out,.inr ⟨he,rfl⟩⟩
 go_wp2_with fail
 refine(IsNull_any _ _).mono ?_
 rintro e w' ⟨rfl,rfl⟩
 by_cases hw0:q.w=0
 ·have t2:(q.w==0)=true:=by simpa using hw0
  have hL:locQ q r D m dep=⟨ob0,m,0⟩:=by unfold locQ;rw [if_pos (.inr hw0),he]
  have HLQ:=Lib.hid hL
  clear hw0 he hL
  obtain⟨xo,yo,zo⟩:=O2.out
  go_wp2_with fail
  refine abs_post (F:=fun W=>Blk W w.heap.size #[.int .i64 0,.int .i64 0,.int .i64 0,.int .i64 0,.int .i64 0,.int .i64 0,.int .i64 0,.int .i64 0]∧Keeps (KB b) w W∧Blk W b #[.slice A n c,.int .i64 D,.int .i64 X,.int .i64 O,.int .i64 m]) ⟨?_,?_,?_⟩ ?_
  ·exact((((((((O2.out.set 0 (by simp) _).set 1 (by simp) _).set 2 (by simp) _).set 3 (by simp) _).set 4 (by simp) _).set 5 (by simp) _).set 6 (by simp) _).set 7 (by simp) _)
  ·refine keeps_set (keeps_set (keeps_set (keeps_set (keeps_set (keeps_set (keeps_set (keeps_set (keeps_of B2.out) ?_ _) ?_ _) ?_ _) ?_ _) ?_ _) ?_ _) ?_ _) ?_ _<;>exact .inr (Nat.le_refl _)
  ·have hne:w.heap.size≠b:=by have:=HL.out;omega
   exact((((((((T2.out.other (p:=⟨w.heap.size,0,none⟩) hne _).other (p:=⟨w.heap.size,1,none⟩) hne _).other (p:=⟨w.heap.size,2,none⟩) hne _).other (p:=⟨w.heap.size,3,none⟩) hne _).other (p:=⟨w.heap.size,4,none⟩) hne _).other (p:=⟨w.heap.size,5,none⟩) hne _).other (p:=⟨w.heap.size,6,none⟩) hne _).other (p:=⟨w.heap.size,7,none⟩) hne _)
  rintro V ⟨B6,hbv,ht⟩
  exact bodyPost_ret (v:=.agg #[.int .i64 0,.int .i64 0,.int .i64 0,.int .i64 0,.int .i64 0,.int .i64 0,.int .i64 0,.int .i64 0]) (by simp [results,Tryd.results33,go_sem,B6.cell]) rfl ⟨hbv,by rw [HLQ.out];exact ht,.inl ⟨by rw [HLQ.out],by rw [HLQ.out];rfl⟩⟩
 have t2:(q.w==0)=false:=by simpa using hw0
 obtain⟨x2,y2,z2⟩:=T2.out
 go_wp2_with fail
 refine(BEnter_any _ _ _ _ _).mono ?_
 rintro e w2 ⟨rfl,hb2⟩
 have T3:=Lib.hid (T2.out.below hb2)
 have O3:=Lib.hid (O2.out.below hb2)
 have B3:Hid (Below w.heap.size w w2):=Lib.hid (bel_on B2.out hb2)
 clear T2 O2 B2 hb2 x2 y2 z2
 go_wp2_with fail
 refine(requireD _ _).mono ?_
 rintro e w' ⟨⟨he2,rfl⟩|⟨he2,rfl⟩,rfl⟩
 rotate_left
 ·unfold failE
  go_wp2
  have hD:D<dep:=by unfold enterI at he2;split at he2<;>omega
  have hL:locQ q r D m dep=⟨ob0,m,7⟩:=by unfold locQ;rw [if_neg (by rw [he];simp [hw0]),if_pos hD]
  have hE:enterI D dep=7:=by unfold enterI;rw [if_neg (by omega)]
  rw [hL]
  exact⟨rfl,keeps_of B3.out,T3.out,.inr ⟨(by decide:(7:Int)≠0),by rw [hE];rfl⟩⟩
 have hD:¬D<dep:=by unfold enterI at he2;split at he2<;>omega
 have HD:=Lib.hid hD
 have HE2:=Lib.hid he2
 have HE:=Lib.hid he
 have HW0:=Lib.hid hw0
 clear he2 he hw0 hD t2
 obtain⟨x2,y2,z2⟩:=T3.out
 go_wp2_with fail
 refine(HOBJ.out _ (HB.out _ B3.out)).mono ?_
 rintro e w3 ⟨rfl,hb3⟩
 have T4:=Lib.hid ((T3.out.below hb3).alloc (.cells (obA r.1) 45))
 have O4:=Lib.hid ((O3.out.below hb3).alloc (.cells (obA r.1) 45))
 have B4:Hid (Below w.heap.size w (w3.alloc (.cells (obA r.1) 45))):=Lib.hid ((bel_on B3.out hb3).alloc (bel_on B3.out hb3).size _)
 have HSZ:Hid (w.heap.size<w3.heap.size):=Lib.hid (by have:=(O3.out.below hb3).lt;omega)
 have R4:Hid (Blk (w3.alloc (.cells (obA r.1) 45)) w3.heap.size (obA r.1)):=Lib.hid (Blk.fresh _ _ _)
 clear T3 O3 B3 hb3 x2 y2 z2 HOBJ HFOL
 unfold obA at T4 O4 B4 R4
 go_wp2_with fail
 refine(requireD _ _).mono ?_
 rintro e w' ⟨⟨he3,rfl⟩|⟨he3,rfl⟩,rfl⟩
 rotate_left
 ·unfold failE
  go_wp2
  have hL:locQ q r D m dep=⟨ob0,m,r.2⟩:=by unfold locQ;rw [if_neg (by rw [HE.out];simp [HW0.out]),if_neg (by have:=HD.out;omega),if_pos he3]
  rw [hL]
  exact⟨rfl,keeps_of B4.out,T4.out,.inr ⟨he3,rfl⟩⟩
 have HE3:=Lib.hid he3
 clear he3
 go_wp2_with fail
 have HNE:Hid (w.heap.size≠w3.heap.size∧b≠w3.heap.size):=Lib.hid (by have h1:=B4.out.block;have:=R4.out.lt;have h3:=HSZ.out;have h4:=HL.out;omega)
 refine abs_code10 (F:=fun W=>Blk W b #[.slice A n c,.int .i64 D,.int .i64 X,.int .i64 O,.int .i64 m]∧Blk W w.heap.size #[.int .i64 0,.int .i64 0,.int .i64 0,.int .i64 0,.int .i64 0,.int .i64 0,.int .i64 0,.int .i64 0]∧Below w.heap.size w W∧Blk W w3.heap.size #[.int .i64 r.1.k,.int .i64 r.1.sg,.int .i64 r.1.at',.int .i64 r.1.d,.int .i64 r.1.p,.int .i64 r.1.el,.int .i64 r.1.n,.int .i64 r.1.cost]) ⟨T4.out,O4.out,B4.out,R4.out⟩ ?_
 clear T4 O4 B4 R4
 rintro W ⟨h1,h2,h3,h4⟩
 have HT5:=Lib.hid h1
 have HO5:=Lib.hid h2
 have HB5:=Lib.hid h3
 have HR5:=Lib.hid h4
 clear h1 h2 h3 h4
 generalize w3.heap.size=o13 at *
 rename_i KK hKK
 generalize hcm:chargeI m r.1.cost=cm at *
 generalize hce:chargeE m r.1.cost=ce at *
 have HCM:=Lib.hid hcm
 have HCE:=Lib.hid hce
 have HCH:=HCH0
 clear HCH0 hcm hce
 refine wp_region_t13_2 [10,11] (by kernel_rfl) (by kernel_rfl) ?_
 refine t_val (u:=?_) [0] (by kernel_rfl) rfl (by kernel_rfl) trivial (fun ρ wc hbc hcn hq=>?_) ?_;rotate_left
 ·obtain⟨hcn,hfn⟩:=hcn
  simp at hq
  go_simp
  rfl
 refine t_val (u:=?_) [0] (by kernel_rfl) rfl (by kernel_rfl) trivial (fun ρ wc hbc hcn hq=>?_) ?_;rotate_left
 ·obtain⟨hcn,hfn⟩:=hcn
  simp at hq
  go_simp
  rfl
 refine t_val (u:=?_) [52] (by kernel_rfl) rfl (by kernel_rfl) trivial (fun ρ wc hbc hcn hq=>?_) ?_;rotate_left
 ·obtain⟨hcn,hfn⟩:=hcn
  simp at hq
  go_simp
  rfl
 refine t_val (u:=?_) [53] (by kernel_rfl) rfl (by kernel_rfl) trivial (fun ρ wc hbc hcn hq=>?_) ?_;rotate_left
 ·obtain⟨hcn,hfn⟩:=hcn
  simp at hq
  go_simp
  rfl
 refine t_val (u:=?_) [54] (by kernel_rfl) rfl (by kernel_rfl) trivial (fun ρ wc hbc hcn hq=>?_) ?_;rotate_left
 ·obtain⟨hcn,hfn⟩:=hcn
  simp at hq
  have x1:=(HT5.out.drew.below hbc).cell
  have x2:=(HR5.out.drew.below hbc).cell
  go_simp
  rfl
 refine t_val (u:=?_) [13] (by kernel_rfl) rfl (by kernel_rfl) trivial (fun ρ wc hbc hcn hq=>?_) ?_;rotate_left
 ·obtain⟨hcn,hfn⟩:=hcn
  simp at hq
  go_simp
  rfl
 refine t_val (u:=?_) [56] (by kernel_rfl) rfl (by kernel_rfl) trivial (fun ρ wc hbc hcn hq=>?_) ?_;rotate_left
 ·obtain⟨hcn,hfn⟩:=hcn
  simp at hq
  have x1:=(HT5.out.drew.below hbc).cell
  have x2:=(HR5.out.drew.below hbc).cell
  go_simp
  rfl
 refine t_call (T:=Is (.tuple #[.agg #[.int .i64 cm],.int .i64 ce])) (Is (.tuple #[.agg #[.int .i64 cm],.int .i64 ce])) 49 [55,57] (by kernel_rfl) rfl (by kernel_rfl) trivial (stable_is _) (free_is _) (fun _ _ h=>h) (fun ρ wc hbc hcn hq=>?_) ?_
 ·obtain⟨hcn,hfn⟩:=hcn
  simp at hq
  refine⟨_,by go_simp;rfl,?_⟩
  refine(HCH.out _).mono ?_
  rintro e w' ⟨rfl,hbq⟩
  exact⟨_,rfl,rfl,hbq⟩
 refine t_val (u:=?_) [58] (by kernel_rfl) rfl (by kernel_rfl) trivial (fun ρ wc hbc hcn hq=>?_) ?_;rotate_left
 ·obtain⟨hcn,hfn⟩:=hcn
  simp at hq
  go_simp
  rfl
 refine t_val (u:=?_) [50] (by kernel_rfl) rfl (by kernel_rfl) trivial (fun ρ wc hbc hcn hq=>?_) ?_;rotate_left
 ·obtain⟨hcn,hfn⟩:=hcn
  simp at hq
  go_simp
  rfl
 refine t_pure (u:=?_) [50] (by kernel_rfl) rfl (by kernel_rfl) rfl (fun ρ wc hcn hq=>?_) ?_;rotate_left
 ·obtain⟨hcn,hfn⟩:=hcn
  simp at hq
  go_simp
  rfl
 refine t_pure (u:=?_) [51] (by kernel_rfl) rfl (by kernel_rfl) rfl (fun ρ wc hcn hq=>?_) ?_;rotate_left
 ·obtain⟨hcn,hfn⟩:=hcn
  simp at hq
  go_simp
  rfl
 refine t_val (u:=?_) [61] (by kernel_rfl) rfl (by kernel_rfl) trivial (fun ρ wc hbc hcn hq=>?_) ?_;rotate_left
 ·obtain⟨hcn,hfn⟩:=hcn
  simp at hq
  go_simp
  rfl
 refine t_end_lit 66 rfl (fun ff w4 hb7 hq=>?_)
 have hb4:Below W.heap.size W w4:=⟨hb7.os,hb7.tape,hb7.output,hb7.size,hb7.block⟩
 have HT6:=Lib.hid (HT5.out.below hb4)
 have HO6:=Lib.hid (HO5.out.below hb4)
 have HR6:=Lib.hid (HR5.out.below hb4)
 have HB6:=Lib.hid (bel_on HB5.out hb4)
 clear hb4 hb7 HT5 HO5 HR5 HB5 HCH
 simp [AllN] at hq
 simp only [frameL,hq,Nat.zero_add,Nat.reduceAdd]
 clear hq
 obtain⟨x1,y1,z1⟩:=HT6.out
 go_wp2
 refine⟨rfl,?_⟩
 refine hKK _ _ ?_
 clear hKK KK x1 y1 z1
 refine abs_code10 (F:=fun W=>Blk W b #[.slice A n c,.int .i64 D,.int .i64 X,.int .i64 O,.int .i64 cm]∧Blk W w.heap.size #[.int .i64 0,.int .i64 0,.int .i64 0,.int .i64 0,.int .i64 0,.int .i64 0,.int .i64 0,.int .i64 0]∧Keeps (KB b) w W∧Blk W o13 #[.int .i64 r.1.k,.int .i64 r.1.sg,.int .i64 r.1.at',.int .i64 r.1.d,.int .i64 r.1.p,.int .i64 r.1.el,.int .i64 r.1.n,.int .i64 r.1.cost]) ⟨?_,?_,?_,?_⟩ ?_
 ·exact HT6.out.set 4 (by simp) _
 ·exact HO6.out.other (by have:=HL.out;show b≠w.heap.size;omega) _
 ·exact keeps_set (p:=⟨b,4,none⟩) (keeps_of HB6.out) (.inl rfl) _
 ·exact HR6.out.other HNE.out.2 _
 clear HT6 HO6 HR6 HB6
 rintro V ⟨h1,h2,h3,h4⟩
 have HT7:=Lib.hid h1
 have HO7:=Lib.hid h2
 have HK7:=Lib.hid h3
 have HR7:=Lib.hid h4
 clear h1 h2 h3 h4
 go_wp2_with fail
 refine(requireD _ _).mono ?_
 rintro e w' ⟨⟨he4,rfl⟩|⟨he4,rfl⟩,rfl⟩
 rotate_left
 ·unfold failE
  go_wp2
  have hmc:m<r.1.cost:=by rw [←HCE.out] at he4;unfold chargeE at he4;split at he4<;>omega
  have hL:locQ q r D m dep=⟨ob0,m,8⟩:=by unfold locQ;rw [if_neg (by rw [HE.out];simp [HW0.out]),if_neg (by have:=HD.out;omega),if_neg (by rw [HE3.out];simp),if_pos hmc]
  have h1:cm=m:=by rw [←HCM.out];unfold chargeI;rw [if_pos hmc]
  have h2:ce=8:=by rw [←HCE.out];unfold chargeE;rw [if_pos hmc]
  rw [hL,h2]
  rw [h1] at HT7
  exact⟨rfl,HK7.out,HT7.out,.inr ⟨(by decide:(8:Int)≠0),rfl⟩⟩
 have hmc:¬m<r.1.cost:=by rw [←HCE.out] at he4;unfold chargeE at he4;split at he4<;>omega
 have HLQ:Hid (locQ q r D m dep=⟨r.1,m-r.1.cost,0⟩):=Lib.hid (by unfold locQ;rw [if_neg (by rw [HE.out];simp [HW0.out]),if_neg (by have:=HD.out;omega),if_neg (by rw [HE3.out];simp),if_neg hmc])
 have h1:cm=m-r.1.cost:=by rw [←HCM.out];unfold chargeI;rw [if_neg hmc]
 have HC1:=Lib.hid h1
 clear h1 hmc he4 HCM HCE HE HE2 HE3 HW0 HD HB
 obtain⟨x1,y1,z1⟩:=HO7.out
 obtain⟨x2,y2,z2⟩:=HR7.out
 go_wp2_with fail
 refine abs_post (F:=fun W=>Blk W w.heap.size #[.int .i64 r.1.k,.int .i64 r.1.sg,.int .i64 r.1.at',.int .i64 r.1.d,.int .i64 r.1.p,.int .i64 r.1.el,.int .i64 r.1.n,.int .i64 r.1.cost]∧Keeps (KB b) w W∧Blk W b #[.slice A n c,.int .i64 D,.int .i64 X,.int .i64 O,.int .i64 cm]) ⟨?_,?_,?_⟩ ?_
 ·exact((((((((HO7.out.set 0 (by simp) _).set 1 (by simp) _).set 2 (by simp) _).set 3 (by simp) _).set 4 (by simp) _).set 5 (by simp) _).set 6 (by simp) _).set 7 (by simp) _)
 ·refine keeps_set (keeps_set (keeps_set (keeps_set (keeps_set (keeps_set (keeps_set (keeps_set HK7.out ?_ _) ?_ _) ?_ _) ?_ _) ?_ _) ?_ _) ?_ _) ?_ _<;>exact .inr (Nat.le_refl _)
 ·have hne:w.heap.size≠b:=by have:=HL.out;omega
  exact((((((((HT7.out.other (p:=⟨w.heap.size,0,none⟩) hne _).other (p:=⟨w.heap.size,1,none⟩) hne _).other (p:=⟨w.heap.size,2,none⟩) hne _).other (p:=⟨w.heap.size,3,none⟩) hne _).other (p:=⟨w.heap.size,4,none⟩) hne _).other (p:=⟨w.heap.size,5,none⟩) hne _).other (p:=⟨w.heap.size,6,none⟩) hne _).other (p:=⟨w.heap.size,7,none⟩) hne _)
 rintro V2 ⟨B6,hbv,ht⟩
 rw [HC1.out] at ht
 exact bodyPost_ret (v:=.agg #[.int .i64 r.1.k,.int .i64 r.1.sg,.int .i64 r.1.at',.int .i64 r.1.d,.int .i64 r.1.p,.int .i64 r.1.el,.int .i64 r.1.n,.int .i64 r.1.cost]) (by simp [results,Tryd.results33,go_sem,B6.cell]) rfl ⟨hbv,by rw [HLQ.out];exact ht,.inl ⟨by rw [HLQ.out],by rw [HLQ.out];rfl⟩⟩
end
section
attribute [local simp] AllK KnowsV look Is
set_option maxHeartbeats 4000000 in
theorem caughtD_idle (p:Addr)(w:World):
  CallsD Tryd.prog 31 #[.pointer (some p)] .returning w fun e u' w'=>e=.returned (.tuple #[])∧u'=.returning∧w'=w:=by
 refine callsD_of_wpS Tryd.func31 rfl fun c₀ cs hu=>?_
 apply wpS_seq
 apply wpS_region
 simp [wpOpsS,go_sem,recoverD,hu,Tryd.ntmps31,Exit.thenS]
 apply wpS_of_wp
 go_wp2
 cases c₀
 simp_all [bodyPostS,results,Tryd.results31]
theorem assertD (v:Value)(w:World):(Instr.typeAssert (.iface 62 v) 20 62 true).run Tryd.prog w=.ok (.tuple #[v,.bool true]) w:=by kernel_rfl
set_option maxHeartbeats 4000000 in
theorem caughtD_mal (p:Nat)(er:Int)(x:Value)(older:List PanicEntry)(w:World)(hp:w.cell? ⟨p,0,none⟩=some x)(hpz:w.frozen? ⟨p,0,none⟩=false):
  CallsD Tryd.prog 31 #[.pointer (some ⟨p,0,none⟩)] (.panicking ({ v:=.iface 62 (.agg #[.int .i64 er]),recovered:=false }::older)) w fun e u' w'=>
   e=.returned (.tuple #[])∧u'=.panicking ({ v:=.iface 62 (.agg #[.int .i64 er]),recovered:=true }::older)∧w'=(w.setCell ⟨p,0,none⟩ (.int .i64 er)).alloc (.cells #[.int .i64 er] 62):=by
 have hta:=assertD
 have hpl:p<w.heap.size:=World.block_lt_of_cell? w ⟨p,0,none⟩ hp
 have hb:Below w.heap.size w (w.alloc (.cells #[.int .i64 er] 62)):=(Below.refl _ _).alloc (Nat.le_refl _) _
 have h1:(w.alloc (.cells #[.int .i64 er] 62)).cell? ⟨p,0,none⟩=some x:=(hb.cell (p:=⟨p,0,none⟩) hpl).trans hp
 have h2:(w.alloc (.cells #[.int .i64 er] 62)).frozen? ⟨p,0,none⟩=false:=(hb.frozen (p:=⟨p,0,none⟩) hpl).trans hpz
 clear hb
 refine callsD_of_wpS Tryd.func31 rfl fun c₀ cs hu=>?_
 apply wpS_seq
 apply wpS_region
 simp [wpOpsS,go_sem,recoverD,hu,Tryd.ntmps31,Exit.thenS]
 change Code.wpS Tryd.prog _ _ { tmps:=#[.pointer (some ⟨p,0,none⟩),.iface 62 (.agg #[.int .i64 er]),undef,undef,.iface 62 (.agg #[.int .i64 er]),undef,undef,undef,undef,undef,undef,undef,undef,undef,undef,undef,undef],defers:=[] } _ _
 apply wpS_of_wp
 go_wp2
 cases c₀
 simp [bodyPostS,results,Tryd.results31]
set_option maxHeartbeats 1000000 in
theorem attempt_meas (nb:Nat)(caps:Array Value)(er:Int)(PO:World→Prop)(w:World)(hnb:nb<w.heap.size)(hP1:∀W o,PO W→PO (W.alloc o))(hP2:∀W v,PO W→PO (W.setCell ⟨w.heap.size,0,none⟩ v))
  (HR:Hid (Calls Tryd.prog 19 caps (w.alloc (.cells #[.int .i64 0] 27)) fun e w'=>Keeps (KB nb) (w.alloc (.cells #[.int .i64 0] 27)) w'∧PO w'∧((er=0∧e=.returned (.tuple #[]))∨(er≠0∧e=failE er)))) :
  Calls Tryd.prog 18 #[.func (.func 19) #[] caps] w fun e w'=>e=.returned (.int .i64 er)∧Keeps (KB nb) w w'∧PO w':=by
 have hmf:∀(fn:Fn) (first cap:Array Value) (w:World),(Instr.makeFunc fn first cap).run Tryd.prog w=.ok (.func fn first cap) w:=fun _ _ _ _=>rfl
 have HK1:Hid (Keeps (KB nb) w (w.alloc (.cells #[.int .i64 0] 27))):=Lib.hid (keeps_alloc (Keeps.refl _ _) _)
 have HB1:Hid (Blk (w.alloc (.cells #[.int .i64 0] 27)) w.heap.size #[.int .i64 0]):=Lib.hid (Blk.fresh _ _ _)
 have HNP:Hid (¬KB nb w.heap.size):=Lib.hid (by unfold KB;omega)
 have HP1:=Lib.hid hP1
 have HP2:=Lib.hid hP2
 clear hnb hP1 hP2
 go_enter_defers Tryd.func18,Tryd.ntmps18
 go_wp2_with fail
 refine HR.out.mono ?_
 rintro e w2 ⟨hk2,hpo,⟨he,rfl⟩|⟨he,rfl⟩⟩
 ·obtain⟨x2,y2,z2⟩:=HB1.out.keeps hk2 HNP.out
  have c2:=x2 0
  have f2:=y2 0
  have HK2:=Lib.hid (HK1.out.trans hk2)
  have HPO:=Lib.hid hpo
  clear hk2 hpo HR HB1 x2 y2 z2
  go_wp2
  refine leaves_cons (f:=31) (args:=#[.pointer (some ⟨w.heap.size,0,none⟩)]) (by simp) (by simp [go_sem]) ?_
  refine(caughtD_idle _ _).mono ?_
  rintro e u' w'' ⟨rfl,rfl,rfl⟩
  have k1:(w2.setCell ⟨w.heap.size,0,none⟩ (.int .i64 0)).cell? ⟨w.heap.size,0,none⟩=some (.int .i64 0):=World.cell?_setCell_same' _ _ _ (by rw [c2];rfl)
  have HF:Hid (Keeps (KB nb) w (w2.setCell ⟨w.heap.size,0,none⟩ (.int .i64 0))∧PO (w2.setCell ⟨w.heap.size,0,none⟩ (.int .i64 0))):=Lib.hid ⟨keeps_set HK2.out (.inr (Nat.le_refl _)) _,HP2.out _ _ HPO.out⟩
  clear c2 f2 HK2 HPO HK1
  generalize w2.setCell ⟨w.heap.size,0,none⟩ (.int .i64 0)=V at *
  simp [Leaves,settle,results,Tryd.results18,go_sem,k1]
  exact⟨he.symm,HF.out.1,HF.out.2⟩
 ·obtain⟨x2,y2,z2⟩:=HB1.out.keeps hk2 HNP.out
  have c2:=x2 0
  have f2:=y2 0
  have HK2:=Lib.hid (HK1.out.trans hk2)
  have HPO:=Lib.hid hpo
  clear hk2 hpo HR HB1 x2 y2 z2
  unfold failE
  go_wp2
  refine leaves_cons (f:=31) (args:=#[.pointer (some ⟨w.heap.size,0,none⟩)]) (by simp) (by simp [go_sem]) ?_
  refine(caughtD_mal w.heap.size er _ [] w2 c2 f2).mono ?_
  rintro e u' w'' ⟨rfl,rfl,rfl⟩
  have d1:(w2.setCell ⟨w.heap.size,0,none⟩ (.int .i64 er)).cell? ⟨w.heap.size,0,none⟩=some (.int .i64 er):=World.cell?_setCell_same' _ _ _ (by rw [c2];rfl)
  have HF:Hid (Keeps (KB nb) w ((w2.setCell ⟨w.heap.size,0,none⟩ (.int .i64 er)).alloc (.cells #[.int .i64 er] 62))∧PO ((w2.setCell ⟨w.heap.size,0,none⟩ (.int .i64 er)).alloc (.cells #[.int .i64 er] 62))):=Lib.hid ⟨keeps_alloc (keeps_set HK2.out (.inr (Nat.le_refl _)) _) _,HP1.out _ _ (HP2.out _ _ HPO.out)⟩
  clear c2 f2 HK2 HPO HK1
  generalize w2.setCell ⟨w.heap.size,0,none⟩ (.int .i64 er)=U at *
  have k1:(U.alloc (.cells #[.int .i64 er] 62)).cell? ⟨w.heap.size,0,none⟩=some (.int .i64 er):=(((Below.refl U.heap.size U).alloc (Nat.le_refl _) (.cells #[.int .i64 er] 62)).cell (p:=⟨w.heap.size,0,none⟩) (World.block_lt_of_cell? U ⟨w.heap.size,0,none⟩ d1)).trans d1
  clear d1
  generalize U.alloc (.cells #[.int .i64 er] 62)=V at *
  simp [Leaves,settle,results,Tryd.results18,go_sem,k1]
  exact⟨HF.out.1,HF.out.2⟩
end
section
def small15B (ls:List (List Int))(D X:Int):Bool:=decide (D≤40)&&(decide (X≤2000)&&fewB ls)
theorem RefSmall15 (A:Option Addr)(c:Nat)(ls:List (List Int))(D X O:Int)(w:World)(hs:Sg w A ls)(hlm:ls.length≤9223372036854775807):
  Calls Tryd.prog 7 #[.slice A ls.length c,.agg #[.int .i64 D,.int .i64 X,.int .i64 O]] w fun e w'=>e=.returned (.bool (small15B ls D X))∧Below w.heap.size w w':=by
 have Hs:=Lib.hid hs
 clear hs
 by_cases h1:D≤40
 ·by_cases h2:X≤2000
  ·have HR:Hid (small15B ls D X=fewB ls):=Lib.hid (by unfold small15B;simp [h1,h2])
   generalize small15B ls D X=v at *
   have HF:=Lib.hid (fun w2 hs2=>Few_any A c ls w2 hs2 hlm)
   generalize fewB ls=fb at *
   have t1:decide (D≤40)=true:=decide_eq_true h1
   have t2:decide (X≤2000)=true:=decide_eq_true h2
   clear h1 h2
   go_enter Tryd.func7,Tryd.ntmps7
   go_wp2_with fail
   refine(HF.out _ (Hs.out.alloc _)).mono ?_
   rintro e w' ⟨rfl,rfl⟩
   go_wp2
   go_ret
   exact⟨by rw [HR.out];rfl,(Below.refl _ _).alloc (Nat.le_refl _) _⟩
  ·have HR:Hid (small15B ls D X=false):=Lib.hid (by unfold small15B;simp [h1,h2])
   generalize small15B ls D X=v at *
   have t1:decide (D≤40)=true:=decide_eq_true h1
   go_enter Tryd.func7,Tryd.ntmps7
   go_wp2
   go_ret
   exact⟨by rw [HR.out];rfl,(Below.refl _ _).alloc (Nat.le_refl _) _⟩
 ·have HR:Hid (small15B ls D X=false):=Lib.hid (by unfold small15B;simp [h1])
  generalize small15B ls D X=v at *
  go_enter Tryd.func7,Tryd.ntmps7
  go_wp2
  go_ret
  exact⟨by rw [HR.out];rfl,(Below.refl _ _).alloc (Nat.le_refl _) _⟩
theorem small15_fits {ls:List (List Int)}{D X:Int}(h:small15B ls D X=true):D≤40∧X≤2000∧ls.length≤20∧∀j,(seg ls j).length≤300:=by
 unfold small15B at h
 simp only [Bool.and_eq_true,decide_eq_true_eq] at h
 have:=few_fits h.2.2
 exact⟨h.1,h.2.1,this.2,this.1⟩
def canW (ls:List (List Int))(D X:Int):List Int:=if (msgV ls D X).2=0 then writeF (msgV ls D X).1 else []
attribute [local irreducible] msgV measV writeF
end
end Go.Proofs.YtfaflahfjgnphaaDoor
