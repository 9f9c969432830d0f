/- The texts DenI, DenJ, DenP (what is wanted of them), one after the other. -/
import Derived.Test.YtbpmeppdjicmhaaGreatDoorMg32
import Derived.Test.YtbpmeppdjicmhaaGreatDoorMg36
namespace Go.Proofs.YtbpmeppdjicmhaaGreatDoor
open Go.ChangeShapes Go.WideShapes Go.ChangeAt Go.RowKit
set_option linter.unusedVariables false
set_option linter.unusedSimpArgs false
set_option maxRecDepth 100000
section
attribute [local simp] AllK KnowsV look Is
def nulL (ls:List (List Int)):List (List Int):=if 0<ls.length∧(seg ls 0).length=0 then [[0]] else ls
theorem valV_nul (r:Nat)(m:Int):valV [[0]] r m 0 0=⟨nd0,m,0⟩:=by
 have h:(followF [[0]] 0 0).w=0:=by decide
 have h2:(followF [[0]] 0 0).e=0:=by decide
 cases r<;>(unfold valV;rw [if_pos (.inr h),h2];rfl)
theorem msgV_nulL (ls:List (List Int))(D X:Int):msgV ls D X=if (valV (nulL ls) D.toNat (startI X) 0 0).e≠0 then (nd0,(valV (nulL ls) D.toNat (startI X) 0 0).e) else (trimN (valV (nulL ls) D.toNat (startI X) 0 0).n,0):=by
 unfold msgV nulL
 by_cases h:0<ls.length∧(seg ls 0).length=0
 ·rw [if_pos h,if_pos h,valV_nul,if_neg (by simp)]
  rfl
 ·rw [if_neg h,if_neg h]
theorem seg_one0 (j:Nat):(seg [[0]] j).length≤1:=by
 cases j with
 | zero=>decide
 | succ j=>simp [seg]
theorem ri_one0 (w:World)(n:Nat)(T:TypeId)(hn:w.heap.size=n):Ri (w.alloc (.cells #[.int .u64 0] T)) .u64 (some ⟨n,0,none⟩) [0]:=by
 subst hn
 refine .inr ⟨_,0,rfl,fun j hj=>?_⟩
 obtain rfl:j=0:=by simp at hj;omega
 simp [go_sem]
 rfl
theorem wd_one0:Wd2 [[0]]:=by
 intro l hl
 simp at hl
 subst hl
 intro z hz
 simp at hz
 omega
def TrvF (lo:Nat)(cs:Array Value)(W1:World):Fact:=fun v w=>∃b w0,v=.pointer (some ⟨b,0,none⟩)∧w0.heap.size=b∧Below W1.heap.size W1 w0∧Below b w0 w∧Blk w b cs
theorem stable_trvf (lo:Nat)(cs:Array Value)(W1:World):stable (TrvF lo cs W1):=fun v w w' ⟨b,w0,h1,h2,h3,h4,h5⟩ hb=>⟨b,w0,h1,h2,h3,h4.trans (hb.mono (Nat.le_of_lt h5.lt)),h5.below hb⟩
theorem TrvF.new {lo:Nat}{cs:Array Value}{W1 wc:World}{T:TypeId}(hb:Below W1.drew.heap.size W1.drew wc):TrvF lo cs W1 (.pointer (some ⟨wc.heap.size,0,none⟩)) (wc.alloc (.cells cs T)):=
 ⟨wc.heap.size,wc,rfl,rfl,bel_undrew hb,(Below.refl _ _).alloc (Nat.le_refl _) _,Blk.fresh _ _ _⟩
set_option maxHeartbeats 4000000 in
theorem start_any (A:Option Addr)(c:Nat)(ls:List (List Int))(D X O:Int)(w:World)(hT:TabOK w)(hs:Sg w A ls)(hw:Wd2 ls)(hm:ls.length≤40)(hf:∀j,(seg ls j).length≤20000000)(hD:D≤900):
  Calls Tryz.prog 54 #[.slice A ls.length c,.agg #[.int .i64 D,.int .i64 X,.int .i64 O]] w fun e w'=>∃b A2 c2 ls2 w0,e=.returned (.pointer (some ⟨b,0,none⟩))∧ls2=nulL ls∧EnvD b A2 ls2 w0∧Below b w0 w'∧Blk w' b #[.slice A2 ls2.length c2,.int .i64 D,.int .i64 X,.int .i64 O,.int .i64 (startI X)]∧w.heap.size≤b∧Below w.heap.size w w':=by
 have m1:D≤1000:=by omega
 have HBL:=Lib.hid ((Below.refl w.heap.size w).alloc (Nat.le_refl _) (.cells #[.int .i64 D,.int .i64 X,.int .i64 O] 24))
 have HS:=Lib.hid (hs.below HBL.out (Nat.le_refl _))
 by_cases hl:ls.length=0
 ·have hN:Hid (ls=nulL ls):=Lib.hid (by unfold nulL;rw [if_neg (by omega)])
  have t1:¬((0:Int)<ls.length):=by omega
  clear hl hs
  go_enter Tryz.func54,Tryz.ntmps54
  go_wp2_with fail
  refine abs_code10 (F:=fun W=>Blk W w.heap.size #[.int .i64 D,.int .i64 X,.int .i64 O]∧Below w.heap.size w W∧Sg W A ls) ⟨?_,?_,?_⟩ ?_
  ·exact Blk.fresh _ _ _
  ·exact HBL.out
  ·exact HS.out
  clear HBL HS t1
  rintro W1 ⟨h1,h2,h3⟩
  have HL1:=Lib.hid h1
  have HB1:=Lib.hid h2
  have HS1:=Lib.hid h3
  have HTT:=Lib.hid (fun (W:World) (h:Below w.heap.size w W)=>hT.on h)
  have HEQ:Hid (ls=nulL ls):=Lib.hid (hN.out)
  have HWD:Hid (Wd2 (ls)∧(ls).length≤40∧∀j,(seg (ls) j).length≤20000000):=Lib.hid (⟨hw,hm,hf⟩)
  clear h1 h2 h3 hT hw hm hf
  generalize A=A2 at *
  refine wp_region_chain (by kernel_rfl) (by kernel_rfl) ?_
  refine chain_val (u:=?_) [0] rfl (by kernel_rfl) trivial (fun ρ wc hbc hcn hq=>?_) ?_;rotate_left
  ·obtain⟨hcn,hfn⟩:=hcn
   simp at hq
   go_simp
   rfl
  refine chain_val (u:=?_) [3] rfl (by kernel_rfl) trivial (fun ρ wc hbc hcn hq=>?_) ?_;rotate_left
  ·obtain⟨hcn,hfn⟩:=hcn
   simp at hq
   have x2:=(HL1.out.drew.below hbc).cell
   go_simp
   rfl
  refine chain_val (u:=?_) [3] rfl (by kernel_rfl) trivial (fun ρ wc hbc hcn hq=>?_) ?_;rotate_left
  ·obtain⟨hcn,hfn⟩:=hcn
   simp at hq
   have x2:=(HL1.out.drew.below hbc).cell
   go_simp
   rfl
  refine chain_call (T:=Is (.agg #[.int .i64 (startI X)])) 74 [23] rfl (by kernel_rfl) trivial (stable_is _) (fun ρ wc hbc hcn hq=>?_) ?_
  ·obtain⟨hcn,hfn⟩:=hcn
   simp at hq
   refine⟨_,by go_simp;rfl,?_⟩
   refine(BStart_any _ _ _ _).mono ?_
   rintro e w' ⟨rfl,hbq⟩
   exact⟨_,rfl,rfl,hbq⟩
  refine chain_val (u:=?_) [21,22,24] rfl (by kernel_rfl) trivial (fun ρ wc hbc hcn hq=>?_) ?_;rotate_left
  ·obtain⟨hcn,hfn⟩:=hcn
   simp at hq
   go_simp
   rfl
  refine chain_new (T:=TrvF W1.heap.size #[.slice A2 ls.length c,.int .i64 D,.int .i64 X,.int .i64 O,.int .i64 (startI X)] W1) [25] rfl (by kernel_rfl) trivial (stable_trvf _ _ _) (fun ρ wc hbc hcn hq=>?_) ?_
  ·obtain⟨hcn,hfn⟩:=hcn
   simp at hq
   exact⟨_,_,by go_simp;rfl,TrvF.new hbc,(Below.refl _ _).alloc (Nat.le_refl _) _⟩
  refine chain_new (T:=TrvF W1.heap.size #[.slice A2 ls.length c,.int .i64 D,.int .i64 X,.int .i64 O,.int .i64 (startI X)] W1) [26] rfl (by kernel_rfl) trivial (stable_trvf _ _ _) (fun ρ wc hbc hcn hq=>?_) ?_
  ·obtain⟨hcn,hfn⟩:=hcn
   simp at hq
   exact⟨_,wc,by go_simp,hq,Below.refl _ _⟩
  refine chain_end_lit 27 rfl (fun ff w5 hb5 hk=>?_)
  have h4:TrvF W1.heap.size #[.slice A2 ls.length c,.int .i64 D,.int .i64 X,.int .i64 O,.int .i64 (startI X)] W1 (ff 4) w5:=allN_atF hk 4 (by decide) (by decide)
  simp [AllN] at hk
  simp only [frameL,hk]
  clear hk
  obtain⟨b,w0,e4,g1,g2,g3,g4⟩:=h4
  rw [e4]
  have HF:=Lib.hid (And.intro g1 (And.intro g2 (And.intro g3 g4)))
  have HB5:=Lib.hid (bel_on HB1.out (bel_undrew hb5))
  have HZ:=Lib.hid (And.intro HB1.out.size g2.size)
  have HB0:=Lib.hid (bel_on HB1.out g2)
  clear g1 g2 g3 g4 e4 hb5 HL1 HB1
  go_wp2
  go_ret
  obtain⟨g1,g2,g3,g4⟩:=HF.out
  obtain⟨z1,z2⟩:=HZ.out
  exact⟨b,A2,c,ls,w0,rfl,HEQ.out,⟨HS1.out.below g2 (Nat.le_refl _),HTT.out _ HB0.out,by omega,HWD.out.1,HWD.out.2.1,HWD.out.2.2⟩,g3,g4,by omega,HB5.out⟩
 obtain⟨b,off,A',c',rfl,hc,-,-,-,-⟩:=HS.out.one (i:=0) (by omega)
 simp only [Nat.add_zero] at hc
 have t1:decide ((0:Int)<ls.length)=true:=decide_eq_true (by omega)
 have t0:(0:Int)<ls.length:=by omega
 by_cases hz:(seg ls 0).length=0
 ·have hN:Hid ([[0]]=nulL ls):=Lib.hid (by unfold nulL;rw [if_pos ⟨by omega,hz⟩])
  rw [hz] at hc
  clear hl hs
  go_enter Tryz.func54,Tryz.ntmps54
  go_wp2_with fail
  refine abs_code10 (F:=fun W=>Blk W w.heap.size #[.int .i64 D,.int .i64 X,.int .i64 O]∧Below w.heap.size w W∧Sg W (some ⟨w.heap.size+1+1,0,none⟩) [[0]]) ⟨?_,?_,?_⟩ ?_
  ·exact((Blk.fresh _ _ _).alloc _).alloc _
  ·exact(HBL.out.alloc (by simp) _).alloc (by simp;omega) _
  ·exact sg_lit1 _ _ [0] _ _ (by simp) ⟨some ⟨w.heap.size+1,0,none⟩,1,rfl,ri_one0 _ _ _ (by simp),fun h=>(by cases h),by decide,by decide⟩
  clear HBL HS t0 t1 hc
  rintro W1 ⟨h1,h2,h3⟩
  have HL1:=Lib.hid h1
  have HB1:=Lib.hid h2
  have HS1:=Lib.hid h3
  have HTT:=Lib.hid (fun (W:World) (h:Below w.heap.size w W)=>hT.on h)
  have HEQ:Hid (([[0]]:List (List Int))=nulL ls):=Lib.hid (hN.out)
  have HWD:Hid (Wd2 (([[0]]:List (List Int)))∧(([[0]]:List (List Int))).length≤40∧∀j,(seg (([[0]]:List (List Int))) j).length≤20000000):=Lib.hid (⟨wd_one0,by decide,fun j=>by have:=seg_one0 j;omega⟩)
  clear h1 h2 h3 hT hw hm hf
  generalize (some (⟨w.heap.size+1+1,0,none⟩:Addr))=A2 at *
  refine wp_region_chain (by kernel_rfl) (by kernel_rfl) ?_
  refine chain_val (u:=?_) [0] rfl (by kernel_rfl) trivial (fun ρ wc hbc hcn hq=>?_) ?_;rotate_left
  ·obtain⟨hcn,hfn⟩:=hcn
   simp at hq
   go_simp
   rfl
  refine chain_val (u:=?_) [3] rfl (by kernel_rfl) trivial (fun ρ wc hbc hcn hq=>?_) ?_;rotate_left
  ·obtain⟨hcn,hfn⟩:=hcn
   simp at hq
   have x2:=(HL1.out.drew.below hbc).cell
   go_simp
   rfl
  refine chain_val (u:=?_) [3] rfl (by kernel_rfl) trivial (fun ρ wc hbc hcn hq=>?_) ?_;rotate_left
  ·obtain⟨hcn,hfn⟩:=hcn
   simp at hq
   have x2:=(HL1.out.drew.below hbc).cell
   go_simp
   rfl
  refine chain_call (T:=Is (.agg #[.int .i64 (startI X)])) 74 [23] rfl (by kernel_rfl) trivial (stable_is _) (fun ρ wc hbc hcn hq=>?_) ?_
  ·obtain⟨hcn,hfn⟩:=hcn
   simp at hq
   refine⟨_,by go_simp;rfl,?_⟩
   refine(BStart_any _ _ _ _).mono ?_
   rintro e w' ⟨rfl,hbq⟩
   exact⟨_,rfl,rfl,hbq⟩
  refine chain_val (u:=?_) [21,22,24] rfl (by kernel_rfl) trivial (fun ρ wc hbc hcn hq=>?_) ?_;rotate_left
  ·obtain⟨hcn,hfn⟩:=hcn
   simp at hq
   go_simp
   rfl
  refine chain_new (T:=TrvF W1.heap.size #[.slice A2 1 1,.int .i64 D,.int .i64 X,.int .i64 O,.int .i64 (startI X)] W1) [25] rfl (by kernel_rfl) trivial (stable_trvf _ _ _) (fun ρ wc hbc hcn hq=>?_) ?_
  ·obtain⟨hcn,hfn⟩:=hcn
   simp at hq
   exact⟨_,_,by go_simp;rfl,TrvF.new hbc,(Below.refl _ _).alloc (Nat.le_refl _) _⟩
  refine chain_new (T:=TrvF W1.heap.size #[.slice A2 1 1,.int .i64 D,.int .i64 X,.int .i64 O,.int .i64 (startI X)] W1) [26] rfl (by kernel_rfl) trivial (stable_trvf _ _ _) (fun ρ wc hbc hcn hq=>?_) ?_
  ·obtain⟨hcn,hfn⟩:=hcn
   simp at hq
   exact⟨_,wc,by go_simp,hq,Below.refl _ _⟩
  refine chain_end_lit 27 rfl (fun ff w5 hb5 hk=>?_)
  have h4:TrvF W1.heap.size #[.slice A2 1 1,.int .i64 D,.int .i64 X,.int .i64 O,.int .i64 (startI X)] W1 (ff 4) w5:=allN_atF hk 4 (by decide) (by decide)
  simp [AllN] at hk
  simp only [frameL,hk]
  clear hk
  obtain⟨b,w0,e4,g1,g2,g3,g4⟩:=h4
  rw [e4]
  have HF:=Lib.hid (And.intro g1 (And.intro g2 (And.intro g3 g4)))
  have HB5:=Lib.hid (bel_on HB1.out (bel_undrew hb5))
  have HZ:=Lib.hid (And.intro HB1.out.size g2.size)
  have HB0:=Lib.hid (bel_on HB1.out g2)
  clear g1 g2 g3 g4 e4 hb5 HL1 HB1
  go_wp2
  go_ret
  obtain⟨g1,g2,g3,g4⟩:=HF.out
  obtain⟨z1,z2⟩:=HZ.out
  exact⟨b,A2,1,([[0]]:List (List Int)),w0,rfl,HEQ.out,⟨HS1.out.below g2 (Nat.le_refl _),HTT.out _ HB0.out,by omega,HWD.out.1,HWD.out.2.1,HWD.out.2.2⟩,g3,g4,by omega,HB5.out⟩
 ·have hN:Hid (ls=nulL ls):=Lib.hid (by unfold nulL;rw [if_neg (by omega)])
  have t2:(((seg ls 0).length:Int)==0)=false:=beq_eq_false_iff_ne.2 (by omega)
  clear hl hs hz
  go_enter Tryz.func54,Tryz.ntmps54
  go_wp2_with fail
  refine abs_code10 (F:=fun W=>Blk W w.heap.size #[.int .i64 D,.int .i64 X,.int .i64 O]∧Below w.heap.size w W∧Sg W (some ⟨b,off,none⟩) ls) ⟨?_,?_,?_⟩ ?_
  ·exact Blk.fresh _ _ _
  ·exact HBL.out
  ·exact HS.out
  clear HBL HS t0 t1 t2 hc
  rintro W1 ⟨h1,h2,h3⟩
  have HL1:=Lib.hid h1
  have HB1:=Lib.hid h2
  have HS1:=Lib.hid h3
  have HTT:=Lib.hid (fun (W:World) (h:Below w.heap.size w W)=>hT.on h)
  have HEQ:Hid (ls=nulL ls):=Lib.hid (hN.out)
  have HWD:Hid (Wd2 (ls)∧(ls).length≤40∧∀j,(seg (ls) j).length≤20000000):=Lib.hid (⟨hw,hm,hf⟩)
  clear h1 h2 h3 hT hw hm hf
  generalize (some (⟨b,off,none⟩:Addr))=A2 at *
  refine wp_region_chain (by kernel_rfl) (by kernel_rfl) ?_
  refine chain_val (u:=?_) [0] rfl (by kernel_rfl) trivial (fun ρ wc hbc hcn hq=>?_) ?_;rotate_left
  ·obtain⟨hcn,hfn⟩:=hcn
   simp at hq
   go_simp
   rfl
  refine chain_val (u:=?_) [3] rfl (by kernel_rfl) trivial (fun ρ wc hbc hcn hq=>?_) ?_;rotate_left
  ·obtain⟨hcn,hfn⟩:=hcn
   simp at hq
   have x2:=(HL1.out.drew.below hbc).cell
   go_simp
   rfl
  refine chain_val (u:=?_) [3] rfl (by kernel_rfl) trivial (fun ρ wc hbc hcn hq=>?_) ?_;rotate_left
  ·obtain⟨hcn,hfn⟩:=hcn
   simp at hq
   have x2:=(HL1.out.drew.below hbc).cell
   go_simp
   rfl
  refine chain_call (T:=Is (.agg #[.int .i64 (startI X)])) 74 [23] rfl (by kernel_rfl) trivial (stable_is _) (fun ρ wc hbc hcn hq=>?_) ?_
  ·obtain⟨hcn,hfn⟩:=hcn
   simp at hq
   refine⟨_,by go_simp;rfl,?_⟩
   refine(BStart_any _ _ _ _).mono ?_
   rintro e w' ⟨rfl,hbq⟩
   exact⟨_,rfl,rfl,hbq⟩
  refine chain_val (u:=?_) [21,22,24] rfl (by kernel_rfl) trivial (fun ρ wc hbc hcn hq=>?_) ?_;rotate_left
  ·obtain⟨hcn,hfn⟩:=hcn
   simp at hq
   go_simp
   rfl
  refine chain_new (T:=TrvF W1.heap.size #[.slice A2 ls.length c,.int .i64 D,.int .i64 X,.int .i64 O,.int .i64 (startI X)] W1) [25] rfl (by kernel_rfl) trivial (stable_trvf _ _ _) (fun ρ wc hbc hcn hq=>?_) ?_
  ·obtain⟨hcn,hfn⟩:=hcn
   simp at hq
   exact⟨_,_,by go_simp;rfl,TrvF.new hbc,(Below.refl _ _).alloc (Nat.le_refl _) _⟩
  refine chain_new (T:=TrvF W1.heap.size #[.slice A2 ls.length c,.int .i64 D,.int .i64 X,.int .i64 O,.int .i64 (startI X)] W1) [26] rfl (by kernel_rfl) trivial (stable_trvf _ _ _) (fun ρ wc hbc hcn hq=>?_) ?_
  ·obtain⟨hcn,hfn⟩:=hcn
   simp at hq
   exact⟨_,wc,by go_simp,hq,Below.refl _ _⟩
  refine chain_end_lit 27 rfl (fun ff w5 hb5 hk=>?_)
  have h4:TrvF W1.heap.size #[.slice A2 ls.length c,.int .i64 D,.int .i64 X,.int .i64 O,.int .i64 (startI X)] W1 (ff 4) w5:=allN_atF hk 4 (by decide) (by decide)
  simp [AllN] at hk
  simp only [frameL,hk]
  clear hk
  obtain⟨b,w0,e4,g1,g2,g3,g4⟩:=h4
  rw [e4]
  have HF:=Lib.hid (And.intro g1 (And.intro g2 (And.intro g3 g4)))
  have HB5:=Lib.hid (bel_on HB1.out (bel_undrew hb5))
  have HZ:=Lib.hid (And.intro HB1.out.size g2.size)
  have HB0:=Lib.hid (bel_on HB1.out g2)
  clear g1 g2 g3 g4 e4 hb5 HL1 HB1
  go_wp2
  go_ret
  obtain⟨g1,g2,g3,g4⟩:=HF.out
  obtain⟨z1,z2⟩:=HZ.out
  exact⟨b,A2,c,ls,w0,rfl,HEQ.out,⟨HS1.out.below g2 (Nat.le_refl _),HTT.out _ HB0.out,by omega,HWD.out.1,HWD.out.2.1,HWD.out.2.2⟩,g3,g4,by omega,HB5.out⟩
end
theorem NodV.alloc {lo:Nat}{x:Nd}{v:Value}{w:World}(h:NodV lo x v w)(o:Obj):NodV lo x v (w.alloc o):=by
 have hb:Below w.heap.size w (w.alloc o):=(Below.refl _ _).alloc (Nat.le_refl _) o
 obtain⟨A,c,B,c2,hi,h1,h2,h3,h4,h5,h6⟩:=h
 refine⟨A,c,B,c2,hi,h1,Nat.le_trans h2 hb.size,h3.below hb h2,h4.below hb (Nat.le_refl _),h5.below hb (Nat.le_refl _),fun b off j A' l' c' e1 e2 e3=>?_⟩
 rw [hb.cell (p:=⟨b,off+j*5+3,none⟩) (h5 b off e1).1] at e3
 exact(h6 b off j A' l' c' e1 e2 e3).below hb (Nat.le_refl _)
theorem NodV.set {lo:Nat}{x:Nd}{v:Value}{w:World}(h:NodV lo x v w){p:Addr}(hp:p.block<lo)(u:Value):NodV lo x v (w.setCell p u):=by
 obtain⟨A,c,B,c2,hi,h1,h2,h3,h4,h5,h6⟩:=h
 refine⟨A,c,B,c2,hi,h1,by simpa using h2,h3.to fun k k1 k2=>Below.heap_setCell _ _ _ _ (by omega),h4.set _ _,h5.set _ _,fun b off j A' l' c' e1 e2 e3=>?_⟩
 obtain⟨b',off',e4,k1,-⟩:=h3.row e2
 rw [e1] at e4
 injection e4 with e4
 injection e4 with e5 e6
 subst e5
 rw [cell_diff (fun e=>by rw [e] at hp;exact absurd k1 (Nat.not_le.2 hp))] at e3
 exact(h6 b off j A' l' c' e1 e2 e3).set _ _
def MsgP (nb lo:Nat)(x:Nd)(er:Int)(W:World):Prop:=
 (er=0→∃A c B c2,Blk W nb #[.int .i64 x.k,.int .i64 x.e,.int .i64 x.n,.slice A x.d.length c,.slice B x.ks.length c2]∧NodV lo x (.agg #[.int .i64 x.k,.int .i64 x.e,.int .i64 x.n,.slice A x.d.length c,.slice B x.ks.length c2]) W) ∧
 (er≠0→Blk W nb #[.int .i64 0,.int .i64 0,.int .i64 0,.slice none 0 0,.slice none 0 0])
theorem MsgP.alloc {nb lo:Nat}{x:Nd}{er:Int}{W:World}(h:MsgP nb lo x er W)(o:Obj):MsgP nb lo x er (W.alloc o):=
 ⟨fun e=>by obtain⟨A,c,B,c2,h1,h2⟩:=h.1 e;exact⟨A,c,B,c2,h1.alloc o,h2.alloc o⟩,fun e=>(h.2 e).alloc o⟩
theorem MsgP.set {nb lo:Nat}{x:Nd}{er:Int}{W:World}(h:MsgP nb lo x er W){p:Addr}(hp:p.block<lo)(hn:p.block≠nb)(u:Value):MsgP nb lo x er (W.setCell p u):=
 ⟨fun e=>by obtain⟨A,c,B,c2,h1,h2⟩:=h.1 e;exact⟨A,c,B,c2,h1.other hn u,h2.set hp u⟩,fun e=>(h.2 e).other hn u⟩
theorem msg_err0 (ls:List (List Int))(D X:Int)(h:(msgV ls D X).2≠0):(msgV ls D X).1=nd0:=by
 rw [msgV_nulL] at h ⊢
 by_cases h2:(valV (nulL ls) D.toNat (startI X) 0 0).e≠0
 ·rw [if_pos h2]
 ·rw [if_neg h2] at h;exact absurd rfl h
theorem bel_of_keeps {b N:Nat}{w w':World}(h:Keeps (KB b) w w')(hN:N≤w.heap.size)(hb:N≤b):Below N w w':=h.below hN (fun k hk=>by unfold KB at hk;omega)
set_option maxHeartbeats 4000000 in
theorem msgRun (s l nb:Nat)(A:Option Addr)(c:Nat)(ls:List (List Int))(D X O:Int)(w:World)(hT:TabOK w)(hs:Sg w A ls)(hw:Wd2 ls)(hm:ls.length≤40)(hf:∀j,(seg ls j).length≤20000000)(hD:D≤900)(hX:X≤1000000)
  (h1:Blk w s #[.slice A ls.length c]) (h2:Blk w l #[.int .i64 D,.int .i64 X,.int .i64 O]) (h3:Blk w nb #[.int .i64 0,.int .i64 0,.int .i64 0,.slice none 0 0,.slice none 0 0]) :
  Calls Tryz.prog 52 #[.pointer (some ⟨s,0,none⟩),.pointer (some ⟨l,0,none⟩),.pointer (some ⟨nb,0,none⟩)] w fun e w'=>Keeps (KB nb) w w'∧MsgP nb w.heap.size (msgV ls D X).1 (msgV ls D X).2 w' ∧
   (((msgV ls D X).2=0∧e=.returned (.tuple #[]))∨((msgV ls D X).2≠0∧e=failE (msgV ls D X).2)):=by
 have hx0:0≤startI X∧startI X≤1000000:=by unfold startI;split<;>omega
 have HST:=Lib.hid (start_any A c ls D X O w hT hs hw hm hf hD)
 have hmv:=msgV_nulL ls D X
 have HVA:Hid (∀b A2 c2 w0 W,EnvD b A2 (nulL ls) w0→Below b w0 W→Blk W b #[.slice A2 (nulL ls).length c2,.int .i64 D,.int .i64 X,.int .i64 O,.int .i64 (startI X)] →
   Calls Tryz.prog 55 #[.pointer (some ⟨b,0,none⟩),.int .i64 0,.int .i64 0,.int .i64 1] W fun e w'=>Keeps (KB b) W w'∧Blk w' b #[.slice A2 (nulL ls).length c2,.int .i64 D,.int .i64 X,.int .i64 O,.int .i64 (valV (nulL ls) D.toNat (startI X) 0 0).m] ∧
    (((valV (nulL ls) D.toNat (startI X) 0 0).e=0∧∃v,e=.returned v∧NodF W.heap.size (valV (nulL ls) D.toNat (startI X) 0 0).n v w')∨((valV (nulL ls) D.toNat (startI X) 0 0).e≠0∧e=failE (valV (nulL ls) D.toNat (startI X) 0 0).e))∧True):=Lib.hid (fun b A2 c2 w0 W E hb hk=>
  (value_any b A2 c2 (nulL ls) D X O w0 E hD D.toNat (startI X) 0 0 1 W hb hk hx0.1 (by omega) (by omega) (by omega) (by omega) (by omega) (by omega) (by omega) (by congr 1;omega)).mono fun e w' h=>⟨h.1,h.2.1,h.2.2,trivial⟩)
 have HNL:Hid (∀b A2 w0,EnvD b A2 (nulL ls) w0→validN (valV (nulL ls) D.toNat (startI X) 0 0).n=true∧sizeN (valV (nulL ls) D.toNat (startI X) 0 0).n≤1099511627776):=Lib.hid (fun b A2 w0 E=>by
  have h1:=valV_valid E.wd E.m E.f D.toNat (startI X) 0 0
  have h2:=(valV_size E.wd E.m E.f D.toNat (startI X) 0 0).2
  have h3:=valV_m E.wd E.m E.f D.toNat (startI X) 0 0 hx0.1
  exact⟨h1,by omega⟩)
 generalize valV (nulL ls) D.toNat (startI X) 0 0=sv at *
 generalize msgV ls D X=mv at *
 have HM1:Hid (sv.e≠0→mv=(nd0,sv.e)):=Lib.hid (fun h=>by rw [hmv,if_pos h])
 have HM2:Hid (sv.e=0→mv=(trimN sv.n,0)):=Lib.hid (fun h=>by rw [hmv,if_neg (by rw [h];simp)])
 clear hmv
 have HN3:=Lib.hid h3
 have hnb:=h3.lt
 clear hT hs hw hf hD hX hx0
 obtain⟨x1,y1,z1⟩:=h1
 obtain⟨x2,y2,z2⟩:=h2
 go_enter Tryz.func52,Tryz.ntmps52
 go_wp2_with fail
 refine HST.out.mono ?_
 rintro e w3 ⟨b,A2,c2,ls2,w0,rfl,rfl,E,hb0,hk,hz,hbel⟩
 have HB3:=Lib.hid hbel
 have HN4:=Lib.hid (HN3.out.below hbel)
 have HV:=Lib.hid (HVA.out b A2 c2 w0 w3 E hb0 hk)
 obtain⟨hv,hsz⟩:=HNL.out b A2 w0 E
 have hne:b≠nb:=by omega
 have HZ:Hid (w.heap.size≤b∧w.heap.size≤w3.heap.size):=Lib.hid ⟨hz,hbel.size⟩
 clear hb0 hk E hz hbel x1 y1 z1 x2 y2 z2 HST HVA HNL HN3 h3
 go_wp2_with fail
 refine HV.out.mono ?_
 rintro e w4 ⟨hk4,-,⟨he4,v,rfl,hnd⟩|⟨he4,rfl⟩,-⟩
 rotate_left
 ·have HB4:=HB3.out.trans (bel_of_keeps hk4 HZ.out.2 HZ.out.1)
  have HN5:=HN4.out.keeps hk4 (by unfold KB;omega)
  have h5:=HM1.out he4
  unfold failE
  go_wp2
  rw [h5]
  exact⟨rfl,keeps_of HB4,⟨fun h=>absurd h he4,fun _=>HN5⟩,.inr ⟨he4,rfl⟩⟩
 obtain⟨A5,c5,B5,e5,hi5,rfl,hh5,ho5⟩:=hnd
 have HB4:=Lib.hid (HB3.out.trans (bel_of_keeps hk4 HZ.out.2 HZ.out.1))
 have HN5:=Lib.hid (HN4.out.keeps hk4 (by unfold KB;omega))
 have HTR:=Lib.hid (Trim_node sv.n A5 c5 B5 e5 w4 ho5.nd hsz hv)
 have H5:=Lib.hid (HM2.out he4)
 clear HM1 HM2 hk4 he4 ho5 HV HN4 HB3 hv hsz
 go_wp2_with fail
 refine HTR.out.mono ?_
 rintro e w6 ⟨v,rfl,hnv,hb6⟩
 have HN6:=Lib.hid (HN5.out.below hb6)
 have HB6:=Lib.hid (bel_on HB4.out hb6)
 have hz4:=HB4.out.size
 have HLO:Hid (w.heap.size≤w4.heap.size∧nb<w4.heap.size):=Lib.hid ⟨hz4,by omega⟩
 have HV6:=Lib.hid hnv
 obtain⟨A7,c7,B7,e7,hi7,rfl,-⟩:=hnv
 clear hb6 HTR HN5 HB4 hz4
 obtain⟨x3,y3,z3⟩:=HN6.out
 generalize trimN sv.n=tx at *
 go_wp2_with fail
 refine abs_post (F:=fun W=>Blk W nb #[.int .i64 tx.k,.int .i64 tx.e,.int .i64 tx.n,.slice A7 tx.d.length c7,.slice B7 tx.ks.length e7]∧Keeps (KB nb) w W∧NodV w4.heap.size tx (.agg #[.int .i64 tx.k,.int .i64 tx.e,.int .i64 tx.n,.slice A7 tx.d.length c7,.slice B7 tx.ks.length e7]) W) ⟨?_,?_,?_⟩ ?_
 ·exact((((HN6.out.set 0 (by simp) _).set 1 (by simp) _).set 2 (by simp) _).set 3 (by simp) _).set 4 (by simp) _
 ·refine keeps_set (keeps_set (keeps_set (keeps_set (keeps_set (keeps_of HB6.out) ?_ _) ?_ _) ?_ _) ?_ _) ?_ _<;>exact .inl rfl
 ·have hl:=HLO.out.2
  exact((((HV6.out.set (p:=⟨nb,0,none⟩) hl _).set (p:=⟨nb,1,none⟩) hl _).set (p:=⟨nb,2,none⟩) hl _).set (p:=⟨nb,3,none⟩) hl _).set (p:=⟨nb,4,none⟩) hl _
 rintro V ⟨B6,hkv,hn⟩
 go_end0
 refine⟨hkv,?_,?_⟩
 ·rw [H5.out]
  refine⟨fun _=>⟨A7,c7,B7,e7,B6,?_⟩,fun h=>absurd rfl h⟩
  obtain⟨A,c,B,c2,hi,k1,k2,k3,k4⟩:=hn
  exact⟨A,c,B,c2,hi,k1,k2,k3.wide HLO.out.1 (Nat.le_refl _),k4⟩
 ·rw [H5.out]
  exact .inl ⟨rfl,rfl⟩
set_option maxHeartbeats 4000000 in
theorem message_any (A:Option Addr)(c:Nat)(ls:List (List Int))(D X O:Int)(w:World)(hT:TabOK w)(hs:Sg w A ls)(hw:Wd2 ls)(hm:ls.length≤40)(hf:∀j,(seg ls j).length≤20000000)(hD:D≤900)(hX:X≤1000000):
  Calls Tryz.prog 34 #[.slice A ls.length c,.agg #[.int .i64 D,.int .i64 X,.int .i64 O]] w fun e w'=>∃v,e=.returned (.tuple #[v,.int .i64 (msgV ls D X).2])∧NodU w.heap.size (msgV ls D X).1 v w'∧Below w.heap.size w w':=by
 have hmf:∀(fn:Fn) (first cap:Array Value) (w:World),(Instr.makeFunc fn first cap).run Tryz.prog w=.ok (.func fn first cap) w:=fun _ _ _ _=>rfl
 have hme:(msgV ls D X).2≠0→(msgV ls D X).1=nd0:=fun h=>(msg_err0 ls D X h)
 have HB1:=Lib.hid ((((Below.refl w.heap.size w).alloc (Nat.le_refl _) (.cells #[.slice A ls.length c] 22)).alloc (by simp) (.cells #[.int .i64 D,.int .i64 X,.int .i64 O] 24)).alloc (by simp;omega) (.cells #[.int .i64 0,.int .i64 0,.int .i64 0,.slice none 0 0,.slice none 0 0] 39))
 have HS1:Hid (Blk (((w.alloc (.cells #[.slice A ls.length c] 22)).alloc (.cells #[.int .i64 D,.int .i64 X,.int .i64 O] 24)).alloc (.cells #[.int .i64 0,.int .i64 0,.int .i64 0,.slice none 0 0,.slice none 0 0] 39)) w.heap.size #[.slice A ls.length c]):=Lib.hid (((Blk.fresh _ _ _).alloc _).alloc _)
 have HL1:Hid (Blk (((w.alloc (.cells #[.slice A ls.length c] 22)).alloc (.cells #[.int .i64 D,.int .i64 X,.int .i64 O] 24)).alloc (.cells #[.int .i64 0,.int .i64 0,.int .i64 0,.slice none 0 0,.slice none 0 0] 39)) (w.heap.size+1) #[.int .i64 D,.int .i64 X,.int .i64 O]):=Lib.hid ((Blk.new (by simp)).alloc _)
 have HN1:Hid (Blk (((w.alloc (.cells #[.slice A ls.length c] 22)).alloc (.cells #[.int .i64 D,.int .i64 X,.int .i64 O] 24)).alloc (.cells #[.int .i64 0,.int .i64 0,.int .i64 0,.slice none 0 0,.slice none 0 0] 39)) (w.heap.size+1+1) #[.int .i64 0,.int .i64 0,.int .i64 0,.slice none 0 0,.slice none 0 0]):=Lib.hid (Blk.new (by simp))
 have HALL:Hid (∀W:World,W.heap.size=w.heap.size+1+1+1→Below w.heap.size w W→Blk W w.heap.size #[.slice A ls.length c]→Blk W (w.heap.size+1) #[.int .i64 D,.int .i64 X,.int .i64 O]→Blk W (w.heap.size+1+1) #[.int .i64 0,.int .i64 0,.int .i64 0,.slice none 0 0,.slice none 0 0] →
   Calls Tryz.prog 51 #[.func (.func 52) #[] #[.pointer (some ⟨w.heap.size,0,none⟩),.pointer (some ⟨w.heap.size+1,0,none⟩),.pointer (some ⟨w.heap.size+1+1,0,none⟩)]] W fun e w'=>e=.returned (.int .i64 (msgV ls D X).2)∧Keeps (KB (w.heap.size+1+1)) W w'∧MsgP (w.heap.size+1+1) (W.heap.size+1) (msgV ls D X).1 (msgV ls D X).2 w'):=Lib.hid (fun W hz hb k1 k2 k3=>
  attempt_msg (w.heap.size+1+1) _ _ _ W (by omega) (fun V o h=>h.alloc o) (fun V u h=>h.set (p:=⟨W.heap.size,0,none⟩) (by show W.heap.size<W.heap.size+1;omega) (by show W.heap.size≠_;omega) u) (Lib.hid (by
   have hbb:=hb.alloc hb.size (.cells #[.int .i64 0] 28)
   have:=msgRun w.heap.size (w.heap.size+1) (w.heap.size+1+1) A c ls D X O (W.alloc (.cells #[.int .i64 0] 28)) (hT.on hbb) (hs.below hbb (Nat.le_refl _)) hw hm hf hD hX (k1.alloc _) (k2.alloc _) (k3.alloc _)
   rw [show (W.alloc (.cells #[.int .i64 0] 28)).heap.size=W.heap.size+1 by simp] at this
   exact this)))
 generalize msgV ls D X=mv at *
 have HME:=Lib.hid hme
 clear hT hs hw hm hf hD hX hme
 go_enter Tryz.func34,Tryz.ntmps34
 go_wp2_with fail
 refine(HALL.out _ (by simp) HB1.out HS1.out HL1.out HN1.out).mono ?_
 rintro e w2 ⟨rfl,hk2,hmp⟩
 have HB2:=Lib.hid (HB1.out.trans (bel_of_keeps (N:=w.heap.size) hk2 (by simp;omega) (by omega)))
 clear HALL HB1 HS1 HL1 HN1 hk2
 by_cases he:mv.2=0
 ·obtain⟨A5,c5,B5,e5,hn,hv⟩:=hmp.1 he
  have HN:=Lib.hid hn
  have HV:=Lib.hid hv
  clear hmp HME he hv
  obtain⟨x3,y3,z3⟩:=hn
  go_wp2_with fail
  refine abs_post (F:=fun W=>Blk W (w.heap.size+1+1) #[.int .i64 mv.1.k,.int .i64 mv.1.e,.int .i64 mv.1.n,.slice A5 mv.1.d.length c5,.slice B5 mv.1.ks.length e5]∧NodV w.heap.size mv.1 (.agg #[.int .i64 mv.1.k,.int .i64 mv.1.e,.int .i64 mv.1.n,.slice A5 mv.1.d.length c5,.slice B5 mv.1.ks.length e5]) W∧Below w.heap.size w W) ⟨?_,?_,?_⟩ ?_
  ·exact((((HN.out.set 0 (by simp) _).set 1 (by simp) _).set 2 (by simp) _).set 3 (by simp) _).set 4 (by simp) _
  ·have hl:w.heap.size+1+1<w.heap.size+1+1+1+1:=by omega
   obtain⟨A,c,B,c2,hi,k1,k2,k3,k4⟩:=((((HV.out.set (p:=⟨w.heap.size+1+1,0,none⟩) (by first|(simp;done)|(simp;omega)) (.int .i64 mv.1.k)).set (p:=⟨w.heap.size+1+1,1,none⟩) (by first|(simp;done)|(simp;omega)) (.int .i64 mv.1.e)).set (p:=⟨w.heap.size+1+1,2,none⟩) (by first|(simp;done)|(simp;omega)) (.int .i64 mv.1.n)).set (p:=⟨w.heap.size+1+1,3,none⟩) (by first|(simp;done)|(simp;omega)) (.slice A5 mv.1.d.length c5)).set (p:=⟨w.heap.size+1+1,4,none⟩) (by first|(simp;done)|(simp;omega)) (.slice B5 mv.1.ks.length e5)
   exact⟨A,c,B,c2,hi,k1,k2,k3.wide (by simp;omega) (Nat.le_refl _),k4⟩
  ·refine Below.setCell (Below.setCell (Below.setCell (Below.setCell (Below.setCell HB2.out ?_ _) ?_ _) ?_ _) ?_ _) ?_ _<;>(show w.heap.size≤w.heap.size+1+1;omega)
  rintro V ⟨B6,hv,hbv⟩
  exact bodyPost_ret (v:=.tuple #[.agg #[.int .i64 mv.1.k,.int .i64 mv.1.e,.int .i64 mv.1.n,.slice A5 mv.1.d.length c5,.slice B5 mv.1.ks.length e5],.int .i64 mv.2]) (by simp [results,Tryz.results34,go_sem,B6.cell]) rfl ⟨_,rfl,hv.nodU,hbv⟩
 ·have hn:=hmp.2 he
  have HN:=Lib.hid hn
  have HX1:=Lib.hid (HME.out he)
  clear hmp HME
  obtain⟨x3,y3,z3⟩:=hn
  go_wp2_with fail
  refine abs_post (F:=fun W=>Blk W (w.heap.size+1+1) #[.int .i64 0,.int .i64 0,.int .i64 0,.slice none 0 0,.slice none 0 0]∧Below w.heap.size w W) ⟨?_,?_⟩ ?_
  ·exact((((HN.out.set 0 (by simp) _).set 1 (by simp) _).set 2 (by simp) _).set 3 (by simp) _).set 4 (by simp) _
  ·refine Below.setCell (Below.setCell (Below.setCell (Below.setCell (Below.setCell HB2.out ?_ _) ?_ _) ?_ _) ?_ _) ?_ _<;>(show w.heap.size≤w.heap.size+1+1;omega)
  rintro V ⟨B6,hbv⟩
  refine bodyPost_ret (v:=.tuple #[.agg #[.int .i64 0,.int .i64 0,.int .i64 0,.slice none 0 0,.slice none 0 0],.int .i64 mv.2]) (by simp [results,Tryz.results34,go_sem,B6.cell]) rfl ⟨_,rfl,?_,hbv⟩
  rw [HX1.out]
  exact⟨none,0,none,0,0,rfl,Nat.zero_le _,fun W _=>nd0_here W 0 (by decide),fun b off e=>(by cases e),fun b off e=>(by cases e),fun b off j A' l' c' e=>(by cases e)⟩
theorem DMessageU_any (A:Option Addr)(c:Nat)(ls:List (List Int))(D X O:Int)(w:World)(hT:TabOK w)(hs:Sg w A ls)(hw:Wd2 ls)(hm:ls.length≤40)(hf:∀j,(seg ls j).length≤20000000)(hD:D≤900)(hX:X≤1000000):
  Calls Tryz.prog 34 #[.slice A ls.length c,.agg #[.int .i64 D,.int .i64 X,.int .i64 O]] w fun e w'=>∃v,e=.returned (.tuple #[v,.int .i64 (msgV ls D X).2])∧NodU w.heap.size (msgV ls D X).1 v w'∧Below w.heap.size w w':=
 message_any A c ls D X O w hT hs hw hm hf hD hX
theorem DMessage_is (A:Option Addr)(c m:Nat)(ls:List (List Int))(D X O:Int)(x:Nd)(e:Int)(w:World)(hT:TabOK w)(hl:m=ls.length)(hs:Sg w A ls)(hw:Wd2 ls)(hm:ls.length≤40)(hf:∀j,(seg ls j).length≤20000000)(hD:D≤900)(hX:X≤1000000)(hq:msgV ls D X=(x,e)):
  Calls Tryz.prog 34 #[.slice A m c,.agg #[.int .i64 D,.int .i64 X,.int .i64 O]] w fun r w'=>∃v,r=.returned (.tuple #[v,.int .i64 e])∧NodF w.heap.size x v w'∧Below w.heap.size w w':=by
 subst hl
 have h:=DMessageU_any A c ls D X O w hT hs hw hm hf hD hX
 rw [hq] at h
 refine h.mono ?_
 rintro r w' ⟨v,h1,h2,h3⟩
 exact⟨v,h1,h2.nod,h3⟩
end Go.Proofs.YtbpmeppdjicmhaaGreatDoor
