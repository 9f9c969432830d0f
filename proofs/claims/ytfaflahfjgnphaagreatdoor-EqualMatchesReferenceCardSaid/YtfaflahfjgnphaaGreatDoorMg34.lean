/- The texts EqB (what is wanted of them), one after the other. -/
import Derived.Test.YtfaflahfjgnphaaGreatDoorMg33
namespace Go.Proofs.YtfaflahfjgnphaaGreatDoor
open Go.ChangeShapes Go.WideShapes Go.ChangeAt Go.RowKit
set_option linter.unusedVariables false
set_option linter.unusedSimpArgs false
set_option maxRecDepth 100000
section
theorem und {w wc:World}(h:Below w.drew.heap.size w.drew wc):Below w.heap.size w wc:=⟨h.os,h.tape,h.output,h.size,h.block⟩
attribute [local simp] AllK KnowsV look Is
attribute [local irreducible] cutA allZ sameB
set_option maxHeartbeats 4000000 in
theorem EData_core (A:Option Addr)(c:Nat)(B:Option Addr)(c2:Nat)(a b:List Int)(p q n k l:Nat)(w:World)(ha:Ri w .u64 A a)(hb:Ri w .u64 B b)(hp:a.length=p)(hq:b.length=q)(hn:n=min p q)(hk:p-n=k)(hl:q-n=l)(la:p≤1000000)(lb:q≤1000000)(hac:p≤c)(hbc:q≤c2)(hcm:c≤9223372036854775807)(hcm2:c2≤9223372036854775807):
    Calls Tryz.prog 9 #[.slice A p c,.slice B q c2] w fun r w'=>r=.returned (.bool (dataE a b))∧Below w.heap.size w w':=by
  have hP:=dataE_parts a b n (by omega)
  have h1:=head64i A p c n (n:Int) rfl (by omega)
  have h2:=head64i B q c2 n (n:Int) rfl (by omega)
  have h3:=tailW A p c n (by omega)
  have h4:=tailW B q c2 n (by omega)
  rw [hk] at h3
  rw [hl] at h4
  obtain⟨v1,hv1⟩:∃v,sameB (a.take n) (b.take n)=v:=⟨_,rfl⟩
  obtain⟨v2,hv2⟩:∃v,allZ (a.drop n)=v:=⟨_,rfl⟩
  obtain⟨v3,hv3⟩:∃v,allZ (b.drop n)=v:=⟨_,rfl⟩
  have HEQ:=Lib.hid (fun (w2:World) (ha:Ri w2 .u64 A a) (hb:Ri w2 .u64 B b)=>SlicesEqual_any (cutA A 0 c) (cutA B 0 c2) c c2 n n (a.take n) (b.take n) v1 w2 (by rw [List.length_take];omega) (by rw [List.length_take];omega) (ri_head n ha (by omega)) (ri_head n hb (by omega)) (by omega) (by omega) hv1)
  have HZA:=Lib.hid (fun (w2:World) (ha:Ri w2 .u64 A a)=>AllZero_any (cutA A n c) (c-n) k (a.drop n) v2 w2 (by rw [List.length_drop];omega) (ri_cut ha (by omega)) (by omega) hv2)
  have HZB:=Lib.hid (fun (w2:World) (hb:Ri w2 .u64 B b)=>AllZero_any (cutA B n c2) (c2-n) l (b.drop n) v3 w2 (by rw [List.length_drop];omega) (ri_cut hb (by omega)) (by omega) hv3)
  rw [hv1,hv2,hv3] at hP
  have HP:=Lib.hid hP
  have HA:=Lib.hid ha
  have HB:=Lib.hid hb
  clear hP hv1 hv2 hv3 ha hb hp hq
  have HL:Hid (q<p→n=q):=Lib.hid (fun h=>by omega)
  have HG:Hid (¬q<p→n=p):=Lib.hid (fun h=>by omega)
  have hc1:n≤c:=by omega
  have hc2:n≤c2:=by omega
  clear hn hk hl
  rcases v1 with _|_
  rotate_left
  rcases v2 with _|_
  rotate_left
  rcases v3 with _|_
  all_goals by_cases hqp:q<p
  all_goals
    first
    | (have e:=HL.out hqp;subst e)
    | (have e:=HG.out hqp;subst e)
    clear HL HG
    go_enter Tryz.func9,Tryz.ntmps9
    go_wp2
    clear hqp
    rename_i KK hKK
    refine wp_region_chain (by kernel_rfl) (by kernel_rfl) ?_
    refine chain_val (u:=?_) [0] rfl (by kernel_rfl) trivial (fun ρ wc hbc hcn hq=>?_) ?_;rotate_left
    · obtain⟨hcn,hfn⟩:=hcn
      simp at hq
      go_simp
      rfl
    refine chain_val (u:=?_) [5] rfl (by kernel_rfl) trivial (fun ρ wc hbc hcn hq=>?_) ?_;rotate_left
    · obtain⟨hcn,hfn⟩:=hcn
      simp at hq
      go_simp
      rfl
    refine chain_val (u:=.slice (cutA A 0 c) n c) [11,12] rfl (by kernel_rfl) trivial (fun ρ wc hbc hcn hq=>?_) ?_
    · obtain⟨hcn,hfn⟩:=hcn
      simp at hq
      have hz:=h1 wc
      simp only [execOp,hq,Option.map_some,Option.map_none]
      rw [Sem.run_bind,hz]
      rfl
    refine chain_val (u:=?_) [1] rfl (by kernel_rfl) trivial (fun ρ wc hbc hcn hq=>?_) ?_;rotate_left
    · obtain⟨hcn,hfn⟩:=hcn
      simp at hq
      go_simp
      rfl
    refine chain_val (u:=?_) [5] rfl (by kernel_rfl) trivial (fun ρ wc hbc hcn hq=>?_) ?_;rotate_left
    · obtain⟨hcn,hfn⟩:=hcn
      simp at hq
      go_simp
      rfl
    refine chain_val (u:=.slice (cutA B 0 c2) n c2) [14,15] rfl (by kernel_rfl) trivial (fun ρ wc hbc hcn hq=>?_) ?_
    · obtain⟨hcn,hfn⟩:=hcn
      simp at hq
      have hz:=h2 wc
      simp only [execOp,hq,Option.map_some,Option.map_none]
      rw [Sem.run_bind,hz]
      rfl
    refine chain_call (T:=Is ?_) 19 [13,16] rfl (by kernel_rfl) trivial (stable_is _) (fun ρ wc hbc hcn hq=>?_) ?_;rotate_left
    · obtain⟨hcn,hfn⟩:=hcn
      simp at hq
      refine⟨_,by go_simp;rfl,?_⟩
      refine(HEQ.out _ (HA.out.below (und hbc) (Nat.le_refl _)) (HB.out.below (und hbc) (Nat.le_refl _))).mono ?_
      rintro e w' ⟨rfl,m,rfl⟩
      refine⟨_,rfl,?_,bel_drewN (Below.refl _ _) m⟩
      unfold Is
      rfl
    refine chain_val (u:=?_) [17] rfl (by kernel_rfl) trivial (fun ρ wc hbc hcn hq=>?_) ?_;rotate_left
    · obtain⟨hcn,hfn⟩:=hcn
      simp at hq
      go_simp
      rfl
    first
    | refine chain_skip (s:=18) (c:=false) rfl rfl (by decide +kernel) rfl rfl (fun w x hx=>by simpa using hx) ?_
    | refine chain_skipU (s:=18) rfl rfl (by decide +kernel) rfl (fun w x hx=>by simpa using hx) ?_
    | (refine chain_val (u:=?_) [0] rfl (by kernel_rfl) ⟨18,by decide +kernel,rfl,fun w x hx=>by simpa using hx⟩ (fun ρ wc hbc hcn hq=>?_) ?_;rotate_left
       · obtain⟨hcn,hfn⟩:=hcn
         simp at hq
         go_simp
         rfl)
    first
    | refine chain_skip (s:=18) (c:=false) rfl rfl (by decide +kernel) rfl rfl (fun w x hx=>by simpa using hx) ?_
    | refine chain_skipU (s:=18) rfl rfl (by decide +kernel) rfl (fun w x hx=>by simpa using hx) ?_
    | (refine chain_val (u:=?_) [5] rfl (by kernel_rfl) ⟨18,by decide +kernel,rfl,fun w x hx=>by simpa using hx⟩ (fun ρ wc hbc hcn hq=>?_) ?_;rotate_left
       · obtain⟨hcn,hfn⟩:=hcn
         simp at hq
         go_simp
         rfl)
    first
    | refine chain_skip (s:=18) (c:=false) rfl rfl (by decide +kernel) rfl rfl (fun w x hx=>by simpa using hx) ?_
    | refine chain_skipU (s:=18) rfl rfl (by decide +kernel) rfl (fun w x hx=>by simpa using hx) ?_
    | (refine chain_val (u:=.slice (cutA A n c) k (c-n)) [19,20] rfl (by kernel_rfl) ⟨18,by decide +kernel,rfl,fun w x hx=>by simpa using hx⟩ (fun ρ wc hbc hcn hq=>?_) ?_
       · obtain⟨hcn,hfn⟩:=hcn
         simp at hq
         have hz:=h3 wc
         simp only [execOp,hq,Option.map_some,Option.map_none]
         rw [Sem.run_bind,hz]
         rfl)
    first
    | refine chain_skip (s:=18) (c:=false) rfl rfl (by decide +kernel) rfl rfl (fun w x hx=>by simpa using hx) ?_
    | refine chain_skipU (s:=18) rfl rfl (by decide +kernel) rfl (fun w x hx=>by simpa using hx) ?_
    | (refine chain_call (T:=Is ?_) 20 [21] rfl (by kernel_rfl) ⟨18,by decide +kernel,rfl,fun w x hx=>by simpa using hx⟩ (stable_is _) (fun ρ wc hbc hcn hq=>?_) ?_;rotate_left
       · obtain⟨hcn,hfn⟩:=hcn
         simp at hq
         refine⟨_,by go_simp;rfl,?_⟩
         refine(HZA.out _ (HA.out.below (und hbc) (Nat.le_refl _))).mono ?_
         rintro e w' ⟨rfl,rfl⟩
         refine⟨_,rfl,?_,Below.refl _ _⟩
         unfold Is
         rfl)
    refine chain_val (u:=?_) [18,22] rfl (by kernel_rfl) trivial (fun ρ wc hbc hcn hq=>?_) ?_;rotate_left
    · obtain⟨hcn,hfn⟩:=hcn
      simp at hq
      go_simp
      rfl
    refine chain_val (u:=?_) [23] rfl (by kernel_rfl) trivial (fun ρ wc hbc hcn hq=>?_) ?_;rotate_left
    · obtain⟨hcn,hfn⟩:=hcn
      simp at hq
      go_simp
      rfl
    first
    | refine chain_skip (s:=24) (c:=false) rfl rfl (by decide +kernel) rfl rfl (fun w x hx=>by simpa using hx) ?_
    | refine chain_skipU (s:=24) rfl rfl (by decide +kernel) rfl (fun w x hx=>by simpa using hx) ?_
    | (refine chain_val (u:=?_) [1] rfl (by kernel_rfl) ⟨24,by decide +kernel,rfl,fun w x hx=>by simpa using hx⟩ (fun ρ wc hbc hcn hq=>?_) ?_;rotate_left
       · obtain⟨hcn,hfn⟩:=hcn
         simp at hq
         go_simp
         rfl)
    first
    | refine chain_skip (s:=24) (c:=false) rfl rfl (by decide +kernel) rfl rfl (fun w x hx=>by simpa using hx) ?_
    | refine chain_skipU (s:=24) rfl rfl (by decide +kernel) rfl (fun w x hx=>by simpa using hx) ?_
    | (refine chain_val (u:=?_) [5] rfl (by kernel_rfl) ⟨24,by decide +kernel,rfl,fun w x hx=>by simpa using hx⟩ (fun ρ wc hbc hcn hq=>?_) ?_;rotate_left
       · obtain⟨hcn,hfn⟩:=hcn
         simp at hq
         go_simp
         rfl)
    first
    | refine chain_skip (s:=24) (c:=false) rfl rfl (by decide +kernel) rfl rfl (fun w x hx=>by simpa using hx) ?_
    | refine chain_skipU (s:=24) rfl rfl (by decide +kernel) rfl (fun w x hx=>by simpa using hx) ?_
    | (refine chain_val (u:=.slice (cutA B n c2) l (c2-n)) [25,26] rfl (by kernel_rfl) ⟨24,by decide +kernel,rfl,fun w x hx=>by simpa using hx⟩ (fun ρ wc hbc hcn hq=>?_) ?_
       · obtain⟨hcn,hfn⟩:=hcn
         simp at hq
         have hz:=h4 wc
         simp only [execOp,hq,Option.map_some,Option.map_none]
         rw [Sem.run_bind,hz]
         rfl)
    first
    | refine chain_skip (s:=24) (c:=false) rfl rfl (by decide +kernel) rfl rfl (fun w x hx=>by simpa using hx) ?_
    | refine chain_skipU (s:=24) rfl rfl (by decide +kernel) rfl (fun w x hx=>by simpa using hx) ?_
    | (refine chain_call (T:=Is ?_) 20 [27] rfl (by kernel_rfl) ⟨24,by decide +kernel,rfl,fun w x hx=>by simpa using hx⟩ (stable_is _) (fun ρ wc hbc hcn hq=>?_) ?_;rotate_left
       · obtain⟨hcn,hfn⟩:=hcn
         simp at hq
         refine⟨_,by go_simp;rfl,?_⟩
         refine(HZB.out _ (HB.out.below (und hbc) (Nat.le_refl _))).mono ?_
         rintro e w' ⟨rfl,rfl⟩
         refine⟨_,rfl,?_,Below.refl _ _⟩
         unfold Is
         rfl)
    refine chain_val (u:=?_) [24,28] rfl (by kernel_rfl) trivial (fun ρ wc hbc hcn hq=>?_) ?_;rotate_left
    · obtain⟨hcn,hfn⟩:=hcn
      simp at hq
      go_simp
      rfl
    refine chain_val (u:=?_) [29] rfl (by kernel_rfl) trivial (fun ρ wc hbc hcn hq=>?_) ?_;rotate_left
    · obtain⟨hcn,hfn⟩:=hcn
      simp at hq
      go_simp
      rfl
    refine chain_end_lit 30 rfl (fun ff w5 hb5 hk=>?_)
    have HB6:=Lib.hid (und hb5)
    simp [AllN] at hk
    simp only [frameL,hk]
    refine hKK _ _ ?_
    clear hk hb5
    go_wp2
    go_ret
    exact⟨by rw [HP.out];rfl,HB6.out⟩
theorem EDataB_any (A:Option Addr)(c:Nat)(B:Option Addr)(c2:Nat)(a b:List Int)(w:World)(ha:Ri w .u64 A a)(hb:Ri w .u64 B b)(la:a.length≤1000000)(lb:b.length≤1000000)(hac:a.length≤c)(hbc:b.length≤c2)(hcm:c≤maxLen)(hcm2:c2≤maxLen):
  Calls Tryz.prog 9 #[.slice A a.length c,.slice B b.length c2] w fun r w'=>r=.returned (.bool (dataE a b))∧Below w.heap.size w w':=
 EData_core A c B c2 a b a.length b.length _ _ _ w ha hb rfl rfl rfl rfl rfl la lb hac hbc hcm hcm2
end
end Go.Proofs.YtfaflahfjgnphaaGreatDoor
