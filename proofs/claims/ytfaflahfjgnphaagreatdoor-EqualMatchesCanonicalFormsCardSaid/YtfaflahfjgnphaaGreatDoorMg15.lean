/- The texts Ref10b (what is wanted of them), one after the other. -/
import Derived.Test.YtfaflahfjgnphaaGreatDoorMg11
namespace Go.Proofs.YtfaflahfjgnphaaGreatDoor
open Go.ChangeShapes Go.WideShapes Go.ChangeAt Go.RowKit
set_option linter.unusedVariables false
set_option linter.unusedSimpArgs false
set_option maxRecDepth 100000
section
attribute [local simp] AllK KnowsV look Is
set_option maxHeartbeats 2000000 in
set_option maxRecDepth 100000 in
theorem RefEqual_node:∀(x y:Nd) (A:Option Addr) (c:Nat) (B:Option Addr) (c2:Nat) (A1:Option Addr) (c3:Nat) (B1:Option Addr) (c4:Nat) (w:World),NdR w A c B c2 x→NdR w A1 c3 B1 c4 y →
  Calls Tryz.prog 18 #[.agg #[.int .i64 x.k,.int .i64 x.e,.int .i64 x.n,.slice A x.d.length c,.slice B x.ks.length c2],.agg #[.int .i64 y.k,.int .i64 y.e,.int .i64 y.n,.slice A1 y.d.length c3,.slice B1 y.ks.length c4]] w fun r w'=>r=.returned (.bool (eqN x y))∧Below w.heap.size w w':=by
 refine Nd.ind ?_
 intro k e n d ks ih y A c B c2 A1 c3 B1 c4 w hx hy
 obtain⟨k',e',n',d',ks'⟩:=y
 simp only [Nd.k,Nd.e,Nd.n,Nd.d,Nd.ks]
 have HX:=Lib.hid hx
 have HY:=Lib.hid hy
 have HI:=Lib.hid ih
 have HOX:=Lib.hid hx.open
 have HOY:=Lib.hid hy.open
 have HB0:Hid (Below w.heap.size w ((w.alloc (.cells #[.int .i64 k,.int .i64 e,.int .i64 n,.slice A d.length c,.slice B ks.length c2] 53)).alloc (.cells #[.int .i64 k',.int .i64 e',.int .i64 n',.slice A1 d'.length c3,.slice B1 ks'.length c4] 53))):=Lib.hid (((Below.refl _ _).alloc (Nat.le_refl _) _).alloc (by simp) _)
 clear hx hy ih
 by_cases h1:k=k'
 case neg=>
  have t1:(k != k')=true:=by simpa using h1
  have HR:Hid (eqN (.mk k e n d ks) (.mk k' e' n' d' ks')=false):=Lib.hid (eqN_no (fun h=>h1 (by injection h)))
  clear h1
  go_enter Tryz.func18,Tryz.ntmps18
  go_wp2
  go_ret
  exact⟨by rw [HR.out];rfl,HB0.out⟩
 by_cases h2:e=e'
 case neg=>
  have t1:(e != e')=true:=by simpa using h2
  have HR:Hid (eqN (.mk k e n d ks) (.mk k' e' n' d' ks')=false):=Lib.hid (eqN_no (fun h=>h2 (by injection h)))
  subst h1
  clear h2
  go_enter Tryz.func18,Tryz.ntmps18
  go_wp2
  go_ret
  exact⟨by rw [HR.out];rfl,HB0.out⟩
 by_cases h3:n=n'
 case neg=>
  have t1:(n != n')=true:=by simpa using h3
  have HR:Hid (eqN (.mk k e n d ks) (.mk k' e' n' d' ks')=false):=Lib.hid (eqN_no (fun h=>h3 (by injection h)))
  subst h1 h2
  clear h3
  go_enter Tryz.func18,Tryz.ntmps18
  go_wp2
  go_ret
  exact⟨by rw [HR.out];rfl,HB0.out⟩
 subst h1 h2 h3
 have HSA:=Lib.hid (fun w' hr1 hr2=>Same_any A A1 c c3 d d' w' hr1 hr2 (by have:=HOX.out.2.2.2.2.2.1;have:=HOX.out.2.2.2.2.2.2.1;omega) (by have:=HOY.out.2.2.2.2.2.1;have:=HOY.out.2.2.2.2.2.2.1;omega))
 by_cases h4:d=d'
 case neg=>
  have HR:Hid (eqN (.mk k e n d ks) (.mk k e n d' ks')=false):=Lib.hid (eqN_no (fun h=>h4 (by injection h)))
  have HSB:Hid (sameB d d'=false):=Lib.hid (by unfold sameB;simp [h4])
  clear h4
  go_enter Tryz.func18,Tryz.ntmps18
  go_wp2_with fail
  refine(HSA.out _ (HOX.out.2.2.2.1.below HB0.out (Nat.le_refl _)) (HOY.out.2.2.2.1.below HB0.out (Nat.le_refl _))).mono ?_
  rintro r w1 ⟨rfl,m,rfl⟩
  rw [HSB.out]
  go_wp2
  go_ret
  exact⟨by rw [HR.out];rfl,bel_drewN HB0.out _⟩
 by_cases h5:ks.length=ks'.length
 case neg=>
  have t1:((ks.length:Int) != (ks'.length:Int))=true:=by simp;omega
  have HR:Hid (eqN (.mk k e n d ks) (.mk k e n d' ks')=false):=Lib.hid (eqN_no (fun h=>h5 (by injection h with _ _ _ _ h;rw [h])))
  have HSB:Hid (sameB d d'=true):=Lib.hid (by unfold sameB;simp [h4])
  clear h4
  go_enter Tryz.func18,Tryz.ntmps18
  go_wp2_with fail
  refine(HSA.out _ (HOX.out.2.2.2.1.below HB0.out (Nat.le_refl _)) (HOY.out.2.2.2.1.below HB0.out (Nat.le_refl _))).mono ?_
  rintro r w1 ⟨rfl,m,rfl⟩
  rw [HSB.out]
  go_wp2
  go_ret
  exact⟨by rw [HR.out];rfl,bel_drewN HB0.out _⟩
 subst h4
 have HSB:Hid (sameB d d=true):=Lib.hid (sameB_self d)
 have HL:=Lib.hid h5
 have t1:((ks.length:Int) != (ks'.length:Int))=false:=by simp;omega
 clear h5
 go_enter Tryz.func18,Tryz.ntmps18
 go_wp2_with fail
 refine(HSA.out _ (HOX.out.2.2.2.1.below HB0.out (Nat.le_refl _)) (HOY.out.2.2.2.1.below HB0.out (Nat.le_refl _))).mono ?_
 rintro r w1 ⟨rfl,m,rfl⟩
 rw [HSB.out]
 go_wp2
 go_loopw [5] (fun i wr=>∃j:Nat,j≤ks.length∧i=.int .i64 j∧ks.take j=ks'.take j∧Blk wr w.heap.size #[.int .i64 k,.int .i64 e,.int .i64 n,.slice A d.length c,.slice B ks.length c2]∧Blk wr (w.heap.size+1) #[.int .i64 k,.int .i64 e,.int .i64 n,.slice A1 d.length c3,.slice B1 ks'.length c4]∧Below w.heap.size w wr) (fun i _=>ks.length-(intOf i).toNat)
 case atStart=>exact⟨0,by omega,rfl,by simp,((Blk.fresh w _ _).alloc _).drewN _,(Blk.new (by simp)).drewN _,bel_drewN HB0.out _⟩
 case round=>
  obtain⟨j,hj,rfl,htk,hB2,hB3,hbr⟩:=hrel
  have HB2:=Lib.hid hB2
  have HB3:=Lib.hid hB3
  have HR:=Lib.hid hbr
  have HTK:=Lib.hid htk
  clear hbr htk
  obtain⟨x2,y2,z2⟩:=hB2
  obtain⟨x3,y3,z3⟩:=hB3
  have hkl:ks.length≤9223372036854775807:=by have h1:=HOX.out.2.2.2.2.2.2.2.2.1;have h2:=HOX.out.2.2.2.2.2.2.2.2.2.1;omega
  by_cases hlt:j<ks.length
  ·have hlt2:j<ks'.length:=by have:=HL.out;omega
   have hj1:(j:Int)<(ks.length:Int):=by omega
   have hj2:(j:Int)<(ks'.length:Int):=by omega
   obtain⟨b,off,Aa,ca,Ba,cb,rfl,k0,k1,k2,k3,k4,hsub⟩:=HX.out.kids.atIn HR.out (Nat.le_refl _) hlt
   obtain⟨b',off',Aa',ca',Ba',cb',rfl,l0,l1,l2,l3,l4,hsub'⟩:=HY.out.kids.atIn HR.out (Nat.le_refl _) hlt2
   have zb:b<wr.heap.size:=World.block_lt_of_cell? wr ⟨b,off+j*5,none⟩ k0
   have zb':b'<wr.heap.size:=World.block_lt_of_cell? wr ⟨b',off'+j*5,none⟩ l0
   have HC:Hid (∀wc,Below w.heap.size w wc→Calls Tryz.prog 18 #[.agg #[.int .i64 ks[j].k,.int .i64 ks[j].e,.int .i64 ks[j].n,.slice Aa ks[j].d.length ca,.slice Ba ks[j].ks.length cb],.agg #[.int .i64 ks'[j].k,.int .i64 ks'[j].e,.int .i64 ks'[j].n,.slice Aa' ks'[j].d.length ca',.slice Ba' ks'[j].ks.length cb']] wc fun r w'=>r=.returned (.bool (eqN ks[j] ks'[j]))∧Below wc.heap.size wc w'):=
    Lib.hid (fun wc hwc=>HI.out ks[j] (List.getElem_mem hlt) ks'[j] Aa ca Ba cb Aa' ca' Ba' cb' wc (hsub.on hwc (Nat.le_refl _)) (hsub'.on hwc (Nat.le_refl _)))
   have HTS:=Lib.hid (take_eq_succ hlt hlt2 HTK.out)
   have HNE:Hid (ks[j]≠ks'[j]→eqN (.mk k e n d ks) (.mk k e n d ks')=false):=Lib.hid (fun hne=>eqN_no (fun h=>hne (by injection h with _ _ _ _ h;subst h;rfl)))
   have HEJ:Hid (eqN ks[j] ks'[j]=true↔ks[j]=ks'[j]):=Lib.hid eqN_iff
   clear hsub hsub'
   generalize ks[j]=kx at *
   generalize ks'[j]=ky at *
   generalize heb:eqN kx ky=eb at *
   clear heb
   go_wp2_with fail
   rename_i KK hKK
   refine wp_region_chain (by kernel_rfl) (by kernel_rfl) ?_
   refine chain_val (u:=?_) [2] rfl (by kernel_rfl) trivial (fun ρ wc hbc hcn hk=>?_) ?_;rotate_left
   ·obtain⟨hcn,-⟩:=hcn
    simp at hk
    go_simp
    rfl
   refine chain_val (u:=?_) [49] rfl (by kernel_rfl) trivial (fun ρ wc hbc hcn hk=>?_) ?_;rotate_left
   ·obtain⟨hcn,-⟩:=hcn
    simp at hk
    obtain⟨hcc,-⟩:=bcell hbc
    simp at hcc
    go_simp
    rfl
   refine chain_val (u:=?_) [5] rfl (by kernel_rfl) trivial (fun ρ wc hbc hcn hk=>?_) ?_;rotate_left
   ·obtain⟨hcn,-⟩:=hcn
    simp at hk
    go_simp
    rfl
   refine chain_val (u:=?_) [50,51] rfl (by kernel_rfl) trivial (fun ρ wc hbc hcn hk=>?_) ?_;rotate_left
   ·obtain⟨hcn,-⟩:=hcn
    simp at hk
    go_simp
    rfl
   refine chain_val (u:=?_) [52] rfl (by kernel_rfl) trivial (fun ρ wc hbc hcn hk=>?_) ?_;rotate_left
   ·obtain⟨hcn,-⟩:=hcn
    simp at hk
    obtain⟨hcc,-⟩:=bcell hbc
    simp at hcc
    go_simp
    rfl
   refine chain_val (u:=?_) [3] rfl (by kernel_rfl) trivial (fun ρ wc hbc hcn hk=>?_) ?_;rotate_left
   ·obtain⟨hcn,-⟩:=hcn
    simp at hk
    go_simp
    rfl
   refine chain_val (u:=?_) [54] rfl (by kernel_rfl) trivial (fun ρ wc hbc hcn hk=>?_) ?_;rotate_left
   ·obtain⟨hcn,-⟩:=hcn
    simp at hk
    obtain⟨hcc,-⟩:=bcell hbc
    simp at hcc
    go_simp
    rfl
   refine chain_val (u:=?_) [5] rfl (by kernel_rfl) trivial (fun ρ wc hbc hcn hk=>?_) ?_;rotate_left
   ·obtain⟨hcn,-⟩:=hcn
    simp at hk
    go_simp
    rfl
   refine chain_val (u:=?_) [55,56] rfl (by kernel_rfl) trivial (fun ρ wc hbc hcn hk=>?_) ?_;rotate_left
   ·obtain⟨hcn,-⟩:=hcn
    simp at hk
    go_simp
    rfl
   refine chain_val (u:=?_) [57] rfl (by kernel_rfl) trivial (fun ρ wc hbc hcn hk=>?_) ?_;rotate_left
   ·obtain⟨hcn,-⟩:=hcn
    simp at hk
    obtain⟨hcc,-⟩:=bcell hbc
    simp at hcc
    go_simp
    rfl
   refine chain_call (T:=Is ?_) 18 [53,58] rfl (by kernel_rfl) trivial (stable_is _) (fun ρ wc hbc hcn hk=>?_) ?_;rotate_left
   ·obtain⟨hcn,hfn⟩:=hcn
    simp at hk
    refine⟨_,by go_simp;rfl,?_⟩
    refine(HC.out _ (bel_on (bel_drew HR.out) hbc)).mono ?_
    rintro e w' ⟨rfl,hbq⟩
    refine⟨_,rfl,?_,hbq⟩
    unfold Is
    rfl
   refine chain_val (u:=?_) [59] rfl (by kernel_rfl) trivial (fun ρ wc hbc hcn hk=>?_) ?_;rotate_left
   ·obtain⟨hcn,-⟩:=hcn
    simp at hk
    go_simp
    rfl
   refine chain_end_lit 61 rfl (fun ff w7 hb7 hk=>?_)
   refine hKK _ _ ?_
   clear hKK KK
   simp [AllN] at hk
   simp only [frameL,hk]
   have HB7:Hid (Below w.heap.size w w7):=Lib.hid (bel_on (bel_drew HR.out) hb7)
   have B2:=Lib.hid (HB2.out.drew.below hb7)
   have B3:=Lib.hid (HB3.out.drew.below hb7)
   clear hb7 hk x2 y2 x3 y3 k0 k1 k2 k3 k4 l0 l1 l2 l3 l4
   cases eb with
   | true=>
    go_wp2
    go_roundw
    case rel=>exact⟨j+1,by omega,by go_num,HTS.out (HEJ.out.1 rfl),B2.out,B3.out,HB7.out⟩
    case measure=>simp [intOf];omega
   | false=>
    go_wp2
    go_ret
    exact⟨by rw [HNE.out (fun h=>by have:=HEJ.out.2 h;cases this)];rfl,HB7.out⟩
  ·obtain rfl:j=ks.length:=by omega
   have HRR:Hid (eqN (.mk k e n d ks) (.mk k e n d ks')=true):=Lib.hid (eqN_yes (by
    have h:=HTK.out
    rw [List.take_length,HL.out,List.take_length] at h
    rw [h]))
   go_wp2
   go_ret
   exact⟨by rw [HRR.out];rfl,HR.out⟩
end
end Go.Proofs.YtfaflahfjgnphaaGreatDoor
