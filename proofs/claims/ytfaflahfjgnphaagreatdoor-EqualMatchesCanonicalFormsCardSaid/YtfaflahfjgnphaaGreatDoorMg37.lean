/- The texts EqH (what is wanted of them), one after the other. -/
import Derived.Test.YtfaflahfjgnphaaGreatDoorMg34
import Derived.Test.YtfaflahfjgnphaaGreatDoorMg35
namespace Go.Proofs.YtfaflahfjgnphaaGreatDoor
open Go.ChangeShapes Go.WideShapes Go.ChangeAt Go.RowKit
set_option linter.unusedVariables false
set_option linter.unusedSimpArgs false
set_option maxRecDepth 100000
section
attribute [local simp] AllK KnowsV look Is
set_option maxHeartbeats 4000000 in
theorem Elst_any (A:Option Addr)(c:Nat)(B:Option Addr)(c2:Nat)(ms ns:List (List Int))(o p:Ob)(v:Bool)(w:World)(E1:EnvQ A ms w)(E2:EnvQ B ns w)(ho:ObQ o)(hp:ObQ p)(h6:o.el<6){T N:Nat}(hT:bitsI o.el*o.n=T)(hN:wordsI o.el o.n=N)
  (hv:v=true↔∀i,i<N→fld (wordV ms o.sg (o.at'+(i:Int))) 0 ((min (T-64*i) 64:Nat):Int)=fld (wordV ns p.sg (p.at'+(i:Int))) 0 ((min (T-64*i) 64:Nat):Int)) :
  Calls Tryz.prog 32 #[.agg #[.slice A ms.length c,.slice B ns.length c2],.agg #[.int .i64 o.k,.int .i64 o.sg,.int .i64 o.at',.int .i64 o.d,.int .i64 o.p,.int .i64 o.el,.int .i64 o.n,.int .i64 o.cost],.agg #[.int .i64 p.k,.int .i64 p.sg,.int .i64 p.at',.int .i64 p.d,.int .i64 p.p,.int .i64 p.el,.int .i64 p.n,.int .i64 p.cost]] w fun rr w'=>rr=.returned (.bool (v))∧Below w.heap.size w w':=by
 have hTb:T≤64*536870911:=by have h1:=bitsI_mul o.el o.n ho.n.1;have h2:=ho.n;omega
 have hNT:64*N<T+64:=by
  have h3:=hN
  unfold wordsI at h3
  rw [if_neg (by omega),hT] at h3
  omega
 have HB0:Hid (Below w.heap.size w (((w.alloc (.cells #[.slice A ms.length c,.slice B ns.length c2] 45)).alloc (.cells (obA o) 48)).alloc (.cells (obA p) 48))):=Lib.hid ((((Below.refl w.heap.size w).alloc (Nat.le_refl _) _).alloc (by simp) _).alloc (by simp;omega) _)
 have HP0:Hid (Blk (((w.alloc (.cells #[.slice A ms.length c,.slice B ns.length c2] 45)).alloc (.cells (obA o) 48)).alloc (.cells (obA p) 48)) w.heap.size #[.slice A ms.length c,.slice B ns.length c2]):=Lib.hid (((Blk.fresh _ _ _).alloc _).alloc _)
 have HX0:Hid (Blk (((w.alloc (.cells #[.slice A ms.length c,.slice B ns.length c2] 45)).alloc (.cells (obA o) 48)).alloc (.cells (obA p) 48)) (w.heap.size+1) (obA o)):=Lib.hid ((Blk.new (by simp)).alloc _)
 have HY0:Hid (Blk (((w.alloc (.cells #[.slice A ms.length c,.slice B ns.length c2] 45)).alloc (.cells (obA o) 48)).alloc (.cells (obA p) 48)) (w.heap.size+2) (obA p)):=Lib.hid (Blk.new (by simp))
 have HS0:Hid (w.heap.size≤(((w.alloc (.cells #[.slice A ms.length c,.slice B ns.length c2] 45)).alloc (.cells (obA o) 48)).alloc (.cells (obA p) 48)).heap.size):=Lib.hid (by simp;omega)
 unfold obA at HB0 HP0 HX0 HY0 HS0
 have HTW:Hid (IntKind.i64.wrap (bitsI o.el*o.n)=(T:Int)):=Lib.hid (by rw [hT,IntKind.wrap_i64];omega)
 have HBI:=Lib.hid (fun w2 (hT:TabOK w2)=>LBits_any o.el w2 hT ho.el.1 ho.el.2)
 have HWI:=Lib.hid (fun w2 (hT:TabOK w2)=>(by
  have h:=LWords_any o.el o.n w2 hT ho.el.1 ho.el.2 ho.n.1 ho.n.2
  rw [hN] at h
  exact h:Calls Tryz.prog 50 #[.int .i64 o.el,.int .i64 o.n] w2 fun r w'=>r=.returned (.int .i64 (N:Int))∧w2=w'))
 have HEX:=Lib.hid (fun (i:Nat) (hi:i<N) w2 (a:EnvQ A ms w2)=>Eelements_any A c ms.length ms o.k o.sg o.at' o.d o.p o.el o.n o.cost (i:Int) ((min (T-64*i) 64:Nat):Int) w2 a rfl ho.sg ho.at' (by omega) (by omega))
 have HEY:=Lib.hid (fun (i:Nat) (hi:i<N) w2 (a:EnvQ B ns w2)=>Eelements_any B c2 ns.length ns p.k p.sg p.at' p.d p.p p.el p.n p.cost (i:Int) ((min (T-64*i) 64:Nat):Int) w2 a rfl hp.sg hp.at' (by omega) (by omega))
 have HY:Hid ((∀i,i<N→fld (wordV ms o.sg (o.at'+(i:Int))) 0 ((min (T-64*i) 64:Nat):Int)=fld (wordV ns p.sg (p.at'+(i:Int))) 0 ((min (T-64*i) 64:Nat):Int))→v=true):=Lib.hid hv.2
 have HNO:Hid (∀i,i<N→fld (wordV ms o.sg (o.at'+(i:Int))) 0 ((min (T-64*i) 64:Nat):Int)≠fld (wordV ns p.sg (p.at'+(i:Int))) 0 ((min (T-64*i) 64:Nat):Int)→v=false):=Lib.hid (fun i hi h=>by
  cases hv1:v with
  | false=>rfl
  | true=>exact absurd (hv.1 hv1 i hi) h)
 have HE1:=Lib.hid (E1.on HB0.out)
 have HE2:=Lib.hid (E2.on HB0.out)
 clear E1 E2 ho hp hT hN hv h6
 go_enter Tryz.func32,Tryz.ntmps32
 go_wp2_with fail
 refine abs_code10 (F:=fun W=>W=(((w.alloc (.cells #[.slice A ms.length c,.slice B ns.length c2] 45)).alloc (.cells #[.int .i64 o.k,.int .i64 o.sg,.int .i64 o.at',.int .i64 o.d,.int .i64 o.p,.int .i64 o.el,.int .i64 o.n,.int .i64 o.cost] 48)).alloc (.cells #[.int .i64 p.k,.int .i64 p.sg,.int .i64 p.at',.int .i64 p.d,.int .i64 p.p,.int .i64 p.el,.int .i64 p.n,.int .i64 p.cost] 48))) rfl ?_
 rintro W1 hW1
 rw [←hW1] at HB0 HP0 HX0 HY0 HS0 HE1 HE2
 clear hW1
 rename_i KK hKK
 refine wp_region_chain (by kernel_rfl) (by kernel_rfl) ?_
 refine chain_val (u:=?_) [4] rfl (by kernel_rfl) trivial (fun ρ wc hbc hcn hq=>?_) ?_;rotate_left
 ·obtain⟨hcn,hfn⟩:=hcn
  simp at hq
  go_simp
  rfl
 refine chain_val (u:=?_) [10] rfl (by kernel_rfl) trivial (fun ρ wc hbc hcn hq=>?_) ?_;rotate_left
 ·obtain⟨hcn,hfn⟩:=hcn
  simp at hq
  have x1:=(HP0.out.drew.below hbc).cell
  have x2:=(HX0.out.drew.below hbc).cell
  have x3:=(HY0.out.drew.below hbc).cell
  go_simp
  rfl
 refine chain_call (T:=Is ?_) 49 [11] rfl (by kernel_rfl) trivial (stable_is _) (fun ρ wc hbc hcn hq=>?_) ?_;rotate_left
 ·obtain⟨hcn,hfn⟩:=hcn
  simp at hq
  refine⟨_,by go_simp;rfl,?_⟩
  refine(HBI.out _ (HE1.out.on (und hbc)).tab).mono ?_
  rintro e w' ⟨rfl,rfl⟩
  refine⟨_,rfl,?_,Below.refl _ _⟩
  unfold Is
  rfl
 refine chain_val (u:=?_) [4] rfl (by kernel_rfl) trivial (fun ρ wc hbc hcn hq=>?_) ?_;rotate_left
 ·obtain⟨hcn,hfn⟩:=hcn
  simp at hq
  go_simp
  rfl
 refine chain_val (u:=?_) [13] rfl (by kernel_rfl) trivial (fun ρ wc hbc hcn hq=>?_) ?_;rotate_left
 ·obtain⟨hcn,hfn⟩:=hcn
  simp at hq
  have x1:=(HP0.out.drew.below hbc).cell
  have x2:=(HX0.out.drew.below hbc).cell
  have x3:=(HY0.out.drew.below hbc).cell
  go_simp
  rfl
 refine chain_val (u:=.int .i64 (T:Int)) [12,14] rfl (by kernel_rfl) trivial (fun ρ wc hbc hcn hq=>?_) ?_
 ·obtain⟨hcn,hfn⟩:=hcn
  simp at hq
  have hz:=HTW.out
  go_simp
 refine chain_val (u:=?_) [15] rfl (by kernel_rfl) trivial (fun ρ wc hbc hcn hq=>?_) ?_;rotate_left
 ·obtain⟨hcn,hfn⟩:=hcn
  simp at hq
  go_simp
  rfl
 refine chain_end_lit 43 rfl (fun ff w5 hb5 hk=>?_)
 have HB1:=Lib.hid (bel_on HB0.out (und hb5))
 have HP1:=Lib.hid (HP0.out.below (und hb5))
 have HX1:=Lib.hid (HX0.out.below (und hb5))
 have HY1:=Lib.hid (HY0.out.below (und hb5))
 have HE1:=Lib.hid (HE1.out.on (und hb5))
 have HE2:=Lib.hid (HE2.out.on (und hb5))
 simp [AllN] at hk
 simp only [frameL,hk]
 refine hKK _ _ ?_
 clear hk hb5 HB0 HP0 HX0 HY0 HS0 hKK KK
 obtain⟨x1,y1,z1⟩:=HX1.out
 go_wp2_with fail
 refine(HWI.out _ HE1.out.tab).mono ?_
 rintro rr w6 ⟨rfl,rfl⟩
 clear x1 y1 z1
 go_wp2
 go_loopw [21] (fun i wr=>∃j:Nat,j≤N∧i=.int .i64 j∧(∀i,i<j→fld (wordV ms o.sg (o.at'+(i:Int))) 0 ((min (T-64*i) 64:Nat):Int)=fld (wordV ns p.sg (p.at'+(i:Int))) 0 ((min (T-64*i) 64:Nat):Int))∧Below w5.heap.size w5 wr) (fun i _=>N-(intOf i).toNat)
 case atStart=>exact⟨0,by omega,rfl,fun l hl=>absurd hl (Nat.not_lt_zero _),Below.refl _ _⟩
 case round=>
  obtain⟨j,hj,rfl,hal,hbr⟩:=hrel
  have HR:=Lib.hid hbr
  have HAL:=Lib.hid hal
  clear hbr hal
  by_cases hlt:j<N
  ·have hj1:(j:Int)<(N:Int):=by omega
   have HEA:=Lib.hid (HEX.out j hlt)
   have HEB:=Lib.hid (HEY.out j hlt)
   have HNJ:=Lib.hid (HNO.out j hlt)
   have HAN:Hid (fld (wordV ms o.sg (o.at'+(j:Int))) 0 ((min (T-64*j) 64:Nat):Int)=fld (wordV ns p.sg (p.at'+(j:Int))) 0 ((min (T-64*j) 64:Nat):Int)→∀i,i<j+1→fld (wordV ms o.sg (o.at'+(i:Int))) 0 ((min (T-64*i) 64:Nat):Int)=fld (wordV ns p.sg (p.at'+(i:Int))) 0 ((min (T-64*i) 64:Nat):Int)):=Lib.hid (fun h l hl=>by
    by_cases e:l=j
    ·subst e;exact h
    ·exact HAL.out l (by omega))
   have HE1:=Lib.hid (HE1.out.on HR.out)
   have HE2:=Lib.hid (HE2.out.on HR.out)
   have HP3:=Lib.hid (HP1.out.below HR.out)
   have HX3:=Lib.hid (HX1.out.below HR.out)
   have HY3:=Lib.hid (HY1.out.below HR.out)
   generalize fld (wordV ms o.sg (o.at'+(j:Int))) 0 ((min (T-64*j) 64:Nat):Int)=a1 at *
   generalize fld (wordV ns p.sg (p.at'+(j:Int))) 0 ((min (T-64*j) 64:Nat):Int)=a2 at *
   obtain⟨u,hu⟩:∃u:Int,((min (T-64*j) 64:Nat):Int)=u:=⟨_,rfl⟩
   rw [hu] at HEA HEB
   have b1:(j:Int)≤536870912:=by omega
   have b2:(T:Int)≤34359738304:=by omega
   have HU1:Hid (64<(T:Int)-(j:Int)*64→u=64):=Lib.hid (fun h=>by omega)
   have HU2:Hid ((T:Int)-(j:Int)*64≤64→u=(T:Int)-(j:Int)*64):=Lib.hid (fun h=>by omega)
   clear hu
   go_wp2
   all_goals
    first
    | (have e:=HU1.out h;subst e)
    | (have e:=HU2.out h;subst e)
    clear HU1 HU2
    rename_i KK hKK
    refine wp_region_chain (by kernel_rfl) (by kernel_rfl) ?_
    refine chain_val (u:=?_) [3] rfl (by kernel_rfl) trivial (fun ρ wc hbc hcn hq=>?_) ?_;rotate_left
    ·obtain⟨hcn,hfn⟩:=hcn
     simp at hq
     go_simp
     rfl
    refine chain_val (u:=?_) [29] rfl (by kernel_rfl) trivial (fun ρ wc hbc hcn hq=>?_) ?_;rotate_left
    ·obtain⟨hcn,hfn⟩:=hcn
     simp at hq
     have x1:=(HP3.out.drew.below hbc).cell
     have x2:=(HX3.out.drew.below hbc).cell
     have x3:=(HY3.out.drew.below hbc).cell
     go_simp
     rfl
    refine chain_val (u:=?_) [4] rfl (by kernel_rfl) trivial (fun ρ wc hbc hcn hq=>?_) ?_;rotate_left
    ·obtain⟨hcn,hfn⟩:=hcn
     simp at hq
     have x1:=(HP3.out.drew.below hbc).cell
     have x2:=(HX3.out.drew.below hbc).cell
     have x3:=(HY3.out.drew.below hbc).cell
     go_simp
     rfl
    refine chain_val (u:=?_) [8] rfl (by kernel_rfl) trivial (fun ρ wc hbc hcn hq=>?_) ?_;rotate_left
    ·obtain⟨hcn,hfn⟩:=hcn
     simp at hq
     go_simp
     rfl
    refine chain_val (u:=?_) [9] rfl (by kernel_rfl) trivial (fun ρ wc hbc hcn hq=>?_) ?_;rotate_left
    ·obtain⟨hcn,hfn⟩:=hcn
     simp at hq
     go_simp
     rfl
    refine chain_call (T:=Is ?_) 51 [30,31,32,33] rfl (by kernel_rfl) trivial (stable_is _) (fun ρ wc hbc hcn hq=>?_) ?_;rotate_left
    ·obtain⟨hcn,hfn⟩:=hcn
     simp at hq
     refine⟨_,by go_simp;rfl,?_⟩
     refine(HEA.out _ (HE1.out.on (und hbc))).mono ?_
     rintro e w' ⟨rfl,hbq⟩
     refine⟨_,rfl,?_,hbq⟩
     unfold Is
     rfl
    refine chain_val (u:=?_) [3] rfl (by kernel_rfl) trivial (fun ρ wc hbc hcn hq=>?_) ?_;rotate_left
    ·obtain⟨hcn,hfn⟩:=hcn
     simp at hq
     go_simp
     rfl
    refine chain_val (u:=?_) [35] rfl (by kernel_rfl) trivial (fun ρ wc hbc hcn hq=>?_) ?_;rotate_left
    ·obtain⟨hcn,hfn⟩:=hcn
     simp at hq
     have x1:=(HP3.out.drew.below hbc).cell
     have x2:=(HX3.out.drew.below hbc).cell
     have x3:=(HY3.out.drew.below hbc).cell
     go_simp
     rfl
    refine chain_val (u:=?_) [5] rfl (by kernel_rfl) trivial (fun ρ wc hbc hcn hq=>?_) ?_;rotate_left
    ·obtain⟨hcn,hfn⟩:=hcn
     simp at hq
     have x1:=(HP3.out.drew.below hbc).cell
     have x2:=(HX3.out.drew.below hbc).cell
     have x3:=(HY3.out.drew.below hbc).cell
     go_simp
     rfl
    refine chain_val (u:=?_) [8] rfl (by kernel_rfl) trivial (fun ρ wc hbc hcn hq=>?_) ?_;rotate_left
    ·obtain⟨hcn,hfn⟩:=hcn
     simp at hq
     go_simp
     rfl
    refine chain_val (u:=?_) [9] rfl (by kernel_rfl) trivial (fun ρ wc hbc hcn hq=>?_) ?_;rotate_left
    ·obtain⟨hcn,hfn⟩:=hcn
     simp at hq
     go_simp
     rfl
    refine chain_call (T:=Is ?_) 51 [36,37,38,39] rfl (by kernel_rfl) trivial (stable_is _) (fun ρ wc hbc hcn hq=>?_) ?_;rotate_left
    ·obtain⟨hcn,hfn⟩:=hcn
     simp at hq
     refine⟨_,by go_simp;rfl,?_⟩
     refine(HEB.out _ (HE2.out.on (und hbc))).mono ?_
     rintro e w' ⟨rfl,hbq⟩
     refine⟨_,rfl,?_,hbq⟩
     unfold Is
     rfl
    refine chain_val (u:=?_) [34,40] rfl (by kernel_rfl) trivial (fun ρ wc hbc hcn hq=>?_) ?_;rotate_left
    ·obtain⟨hcn,hfn⟩:=hcn
     simp at hq
     go_simp
     rfl
    refine chain_end_lit 43 rfl (fun ff w6 hb6 hk=>?_)
    have HB6:=Lib.hid (HR.out.trans ((und hb6).mono HR.out.size))
    simp [AllN] at hk
    simp only [frameL,hk]
    refine hKK _ _ ?_
    clear hk hb6 hKK KK
    by_cases hab:a1=a2
    ·have s3:(a1 != a2)=false:=by simpa using hab
     have HV:=Lib.hid (HAN.out hab)
     clear hab
     go_wp2
     go_roundw
     case rel=>exact⟨j+1,by omega,by go_num,HV.out,HB6.out⟩
     case measure=>simp [intOf];omega
    ·have s3:(a1 != a2)=true:=by simpa using hab
     have HV:=Lib.hid (HNJ.out hab)
     clear hab
     go_wp2
     go_ret
     exact⟨by rw [HV.out];rfl,bel_on HB1.out HB6.out⟩
  ·obtain rfl:j=N:=by omega
   have HV:=Lib.hid (HY.out HAL.out)
   go_wp2
   go_ret
   exact⟨by rw [HV.out];rfl,bel_on HB1.out HR.out⟩
end
end Go.Proofs.YtfaflahfjgnphaaGreatDoor
