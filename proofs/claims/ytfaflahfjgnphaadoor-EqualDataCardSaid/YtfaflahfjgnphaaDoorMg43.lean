/- The texts DenI (what is wanted of them), one after the other. -/
import Derived.Test.YtfaflahfjgnphaaDoorMg21
import Derived.Test.YtfaflahfjgnphaaDoorMg39
namespace Go.Proofs.YtfaflahfjgnphaaDoor
open Go.ChangeShapes Go.WideShapes Go.ChangeAt Go.RowKit
set_option linter.unusedVariables false
set_option linter.unusedSimpArgs false
set_option maxRecDepth 100000
section
attribute [local simp] AllK KnowsV look Is
def nulL (ls:List (List Int)):List (List Int):=if 0<ls.length∧(seg ls 0).length=0 then [[0]] else ls
theorem valV_nul (r:Nat)(m:Int):valV [[0]] r m 0 0=⟨nd0,m,0⟩:=by
 have h:(followF [[0]] 0 0).w=0:=by decide
 have h2:(followF [[0]] 0 0).e=0:=by decide
 cases r<;>(unfold valV;rw [if_pos (.inr h),h2];rfl)
theorem measV_nulL (ls:List (List Int))(D X:Int):measV ls D X=if (valV (nulL ls) D.toNat (startI X) 0 0).e≠0 then (0,(valV (nulL ls) D.toNat (startI X) 0 0).e) else (startI X-(valV (nulL ls) D.toNat (startI X) 0 0).m,0):=by
 unfold measV nulL
 by_cases h:0<ls.length∧(seg ls 0).length=0
 ·rw [if_pos h,if_pos h,valV_nul,if_neg (by simp)]
  show (0,(0:Int))=(startI X-startI X,0)
  rw [Int.sub_self]
 ·rw [if_neg h,if_neg h]
theorem seg_one0 (j:Nat):(seg [[0]] j).length≤1:=by
 cases j with
 | zero=>decide
 | succ j=>simp [seg]
theorem ri_one0 (w:World)(n:Nat)(T:TypeId)(hn:w.heap.size=n):Ri (w.alloc (.cells #[.int .u64 0] T)) .u64 (some ⟨n,0,none⟩) [0]:=by
 subst hn
 refine .inr ⟨_,0,rfl,fun j hj=>?_⟩
 obtain rfl:j=0:=by simp at hj;omega
 simp [go_sem]
 rfl
theorem wd_one0:Wd2 [[0]]:=by
 intro l hl
 simp at hl
 subst hl
 intro z hz
 simp at hz
 omega
def TrvF (lo:Nat)(cs:Array Value)(W1:World):Fact:=fun v w=>∃b w0,v=.pointer (some ⟨b,0,none⟩)∧w0.heap.size=b∧Below W1.heap.size W1 w0∧Below b w0 w∧Blk w b cs
theorem stable_trvf (lo:Nat)(cs:Array Value)(W1:World):stable (TrvF lo cs W1):=fun v w w' ⟨b,w0,h1,h2,h3,h4,h5⟩ hb=>⟨b,w0,h1,h2,h3,h4.trans (hb.mono (Nat.le_of_lt h5.lt)),h5.below hb⟩
theorem TrvF.new {lo:Nat}{cs:Array Value}{W1 wc:World}{T:TypeId}(hb:Below W1.drew.heap.size W1.drew wc):TrvF lo cs W1 (.pointer (some ⟨wc.heap.size,0,none⟩)) (wc.alloc (.cells cs T)):=
 ⟨wc.heap.size,wc,rfl,rfl,bel_undrew hb,(Below.refl _ _).alloc (Nat.le_refl _) _,Blk.fresh _ _ _⟩
set_option maxHeartbeats 4000000 in
theorem start_any (A:Option Addr)(c:Nat)(ls:List (List Int))(D X O:Int)(w:World)(hT:TabOK w)(hs:Sg w A ls)(hw:Wd2 ls)(hm:ls.length≤40)(hf:∀j,(seg ls j).length≤20000000)(hD:D≤900):
  Calls Tryd.prog 20 #[.slice A ls.length c,.agg #[.int .i64 D,.int .i64 X,.int .i64 O]] w fun e w'=>∃b A2 c2 ls2 w0,e=.returned (.pointer (some ⟨b,0,none⟩))∧ls2=nulL ls∧EnvD b A2 ls2 w0∧Below b w0 w'∧Blk w' b #[.slice A2 ls2.length c2,.int .i64 D,.int .i64 X,.int .i64 O,.int .i64 (startI X)]∧w.heap.size≤b∧Below w.heap.size w w':=by
 have m1:D≤1000:=by omega
 have HBL:=Lib.hid ((Below.refl w.heap.size w).alloc (Nat.le_refl _) (.cells #[.int .i64 D,.int .i64 X,.int .i64 O] 24))
 have HS:=Lib.hid (hs.below HBL.out (Nat.le_refl _))
 by_cases hl:ls.length=0
 ·have hN:Hid (ls=nulL ls):=Lib.hid (by unfold nulL;rw [if_neg (by omega)])
  have t1:¬((0:Int)<ls.length):=by omega
  clear hl hs
  go_enter Tryd.func20,Tryd.ntmps20
  go_wp2_with fail
  refine abs_code10 (F:=fun W=>Blk W w.heap.size #[.int .i64 D,.int .i64 X,.int .i64 O]∧Below w.heap.size w W∧Sg W A ls) ⟨?_,?_,?_⟩ ?_
  ·exact Blk.fresh _ _ _
  ·exact HBL.out
  ·exact HS.out
  clear HBL HS t1
  rintro W1 ⟨h1,h2,h3⟩
  have HL1:=Lib.hid h1
  have HB1:=Lib.hid h2
  have HS1:=Lib.hid h3
  have HTT:=Lib.hid (fun (W:World) (h:Below w.heap.size w W)=>hT.on h)
  have HEQ:Hid (ls=nulL ls):=Lib.hid (hN.out)
  have HWD:Hid (Wd2 (ls)∧(ls).length≤40∧∀j,(seg (ls) j).length≤20000000):=Lib.hid (⟨hw,hm,hf⟩)
  clear h1 h2 h3 hT hw hm hf
  generalize A=A2 at *
  refine wp_region_chain (by kernel_rfl) (by kernel_rfl) ?_
  refine chain_val (u:=?_) [0] rfl (by kernel_rfl) trivial (fun ρ wc hbc hcn hq=>?_) ?_;rotate_left
  ·obtain⟨hcn,hfn⟩:=hcn
   simp at hq
   go_simp
   rfl
  refine chain_val (u:=?_) [3] rfl (by kernel_rfl) trivial (fun ρ wc hbc hcn hq=>?_) ?_;rotate_left
  ·obtain⟨hcn,hfn⟩:=hcn
   simp at hq
   have x2:=(HL1.out.drew.below hbc).cell
   go_simp
   rfl
  refine chain_val (u:=?_) [3] rfl (by kernel_rfl) trivial (fun ρ wc hbc hcn hq=>?_) ?_;rotate_left
  ·obtain⟨hcn,hfn⟩:=hcn
   simp at hq
   have x2:=(HL1.out.drew.below hbc).cell
   go_simp
   rfl
  refine chain_call (T:=Is (.agg #[.int .i64 (startI X)])) 32 [23] rfl (by kernel_rfl) trivial (stable_is _) (fun ρ wc hbc hcn hq=>?_) ?_
  ·obtain⟨hcn,hfn⟩:=hcn
   simp at hq
   refine⟨_,by go_simp;rfl,?_⟩
   refine(BStart_any _ _ _ _).mono ?_
   rintro e w' ⟨rfl,hbq⟩
   exact⟨_,rfl,rfl,hbq⟩
  refine chain_val (u:=?_) [21,22,24] rfl (by kernel_rfl) trivial (fun ρ wc hbc hcn hq=>?_) ?_;rotate_left
  ·obtain⟨hcn,hfn⟩:=hcn
   simp at hq
   go_simp
   rfl
  refine chain_new (T:=TrvF W1.heap.size #[.slice A2 ls.length c,.int .i64 D,.int .i64 X,.int .i64 O,.int .i64 (startI X)] W1) [25] rfl (by kernel_rfl) trivial (stable_trvf _ _ _) (fun ρ wc hbc hcn hq=>?_) ?_
  ·obtain⟨hcn,hfn⟩:=hcn
   simp at hq
   exact⟨_,_,by go_simp;rfl,TrvF.new hbc,(Below.refl _ _).alloc (Nat.le_refl _) _⟩
  refine chain_new (T:=TrvF W1.heap.size #[.slice A2 ls.length c,.int .i64 D,.int .i64 X,.int .i64 O,.int .i64 (startI X)] W1) [26] rfl (by kernel_rfl) trivial (stable_trvf _ _ _) (fun ρ wc hbc hcn hq=>?_) ?_
  ·obtain⟨hcn,hfn⟩:=hcn
   simp at hq
   exact⟨_,wc,by go_simp,hq,Below.refl _ _⟩
  refine chain_end_lit 27 rfl (fun ff w5 hb5 hk=>?_)
  have h4:TrvF W1.heap.size #[.slice A2 ls.length c,.int .i64 D,.int .i64 X,.int .i64 O,.int .i64 (startI X)] W1 (ff 4) w5:=allN_atF hk 4 (by decide) (by decide)
  simp [AllN] at hk
  simp only [frameL,hk]
  clear hk
  obtain⟨b,w0,e4,g1,g2,g3,g4⟩:=h4
  rw [e4]
  have HF:=Lib.hid (And.intro g1 (And.intro g2 (And.intro g3 g4)))
  have HB5:=Lib.hid (bel_on HB1.out (bel_undrew hb5))
  have HZ:=Lib.hid (And.intro HB1.out.size g2.size)
  have HB0:=Lib.hid (bel_on HB1.out g2)
  clear g1 g2 g3 g4 e4 hb5 HL1 HB1
  go_wp2
  go_ret
  obtain⟨g1,g2,g3,g4⟩:=HF.out
  obtain⟨z1,z2⟩:=HZ.out
  exact⟨b,A2,c,ls,w0,rfl,HEQ.out,⟨HS1.out.below g2 (Nat.le_refl _),HTT.out _ HB0.out,by omega,HWD.out.1,HWD.out.2.1,HWD.out.2.2⟩,g3,g4,by omega,HB5.out⟩
 obtain⟨b,off,A',c',rfl,hc,-,-,-,-⟩:=HS.out.one (i:=0) (by omega)
 simp only [Nat.add_zero] at hc
 have t1:decide ((0:Int)<ls.length)=true:=decide_eq_true (by omega)
 have t0:(0:Int)<ls.length:=by omega
 by_cases hz:(seg ls 0).length=0
 ·have hN:Hid ([[0]]=nulL ls):=Lib.hid (by unfold nulL;rw [if_pos ⟨by omega,hz⟩])
  rw [hz] at hc
  clear hl hs
  go_enter Tryd.func20,Tryd.ntmps20
  go_wp2_with fail
  refine abs_code10 (F:=fun W=>Blk W w.heap.size #[.int .i64 D,.int .i64 X,.int .i64 O]∧Below w.heap.size w W∧Sg W (some ⟨w.heap.size+1+1,0,none⟩) [[0]]) ⟨?_,?_,?_⟩ ?_
  ·exact((Blk.fresh _ _ _).alloc _).alloc _
  ·exact(HBL.out.alloc (by simp) _).alloc (by simp;omega) _
  ·exact sg_lit1 _ _ [0] _ _ (by simp) ⟨some ⟨w.heap.size+1,0,none⟩,1,rfl,ri_one0 _ _ _ (by simp),fun h=>(by cases h),by decide,by decide⟩
  clear HBL HS t0 t1 hc
  rintro W1 ⟨h1,h2,h3⟩
  have HL1:=Lib.hid h1
  have HB1:=Lib.hid h2
  have HS1:=Lib.hid h3
  have HTT:=Lib.hid (fun (W:World) (h:Below w.heap.size w W)=>hT.on h)
  have HEQ:Hid (([[0]]:List (List Int))=nulL ls):=Lib.hid (hN.out)
  have HWD:Hid (Wd2 (([[0]]:List (List Int)))∧(([[0]]:List (List Int))).length≤40∧∀j,(seg (([[0]]:List (List Int))) j).length≤20000000):=Lib.hid (⟨wd_one0,by decide,fun j=>by have:=seg_one0 j;omega⟩)
  clear h1 h2 h3 hT hw hm hf
  generalize (some (⟨w.heap.size+1+1,0,none⟩:Addr))=A2 at *
  refine wp_region_chain (by kernel_rfl) (by kernel_rfl) ?_
  refine chain_val (u:=?_) [0] rfl (by kernel_rfl) trivial (fun ρ wc hbc hcn hq=>?_) ?_;rotate_left
  ·obtain⟨hcn,hfn⟩:=hcn
   simp at hq
   go_simp
   rfl
  refine chain_val (u:=?_) [3] rfl (by kernel_rfl) trivial (fun ρ wc hbc hcn hq=>?_) ?_;rotate_left
  ·obtain⟨hcn,hfn⟩:=hcn
   simp at hq
   have x2:=(HL1.out.drew.below hbc).cell
   go_simp
   rfl
  refine chain_val (u:=?_) [3] rfl (by kernel_rfl) trivial (fun ρ wc hbc hcn hq=>?_) ?_;rotate_left
  ·obtain⟨hcn,hfn⟩:=hcn
   simp at hq
   have x2:=(HL1.out.drew.below hbc).cell
   go_simp
   rfl
  refine chain_call (T:=Is (.agg #[.int .i64 (startI X)])) 32 [23] rfl (by kernel_rfl) trivial (stable_is _) (fun ρ wc hbc hcn hq=>?_) ?_
  ·obtain⟨hcn,hfn⟩:=hcn
   simp at hq
   refine⟨_,by go_simp;rfl,?_⟩
   refine(BStart_any _ _ _ _).mono ?_
   rintro e w' ⟨rfl,hbq⟩
   exact⟨_,rfl,rfl,hbq⟩
  refine chain_val (u:=?_) [21,22,24] rfl (by kernel_rfl) trivial (fun ρ wc hbc hcn hq=>?_) ?_;rotate_left
  ·obtain⟨hcn,hfn⟩:=hcn
   simp at hq
   go_simp
   rfl
  refine chain_new (T:=TrvF W1.heap.size #[.slice A2 1 1,.int .i64 D,.int .i64 X,.int .i64 O,.int .i64 (startI X)] W1) [25] rfl (by kernel_rfl) trivial (stable_trvf _ _ _) (fun ρ wc hbc hcn hq=>?_) ?_
  ·obtain⟨hcn,hfn⟩:=hcn
   simp at hq
   exact⟨_,_,by go_simp;rfl,TrvF.new hbc,(Below.refl _ _).alloc (Nat.le_refl _) _⟩
  refine chain_new (T:=TrvF W1.heap.size #[.slice A2 1 1,.int .i64 D,.int .i64 X,.int .i64 O,.int .i64 (startI X)] W1) [26] rfl (by kernel_rfl) trivial (stable_trvf _ _ _) (fun ρ wc hbc hcn hq=>?_) ?_
  ·obtain⟨hcn,hfn⟩:=hcn
   simp at hq
   exact⟨_,wc,by go_simp,hq,Below.refl _ _⟩
  refine chain_end_lit 27 rfl (fun ff w5 hb5 hk=>?_)
  have h4:TrvF W1.heap.size #[.slice A2 1 1,.int .i64 D,.int .i64 X,.int .i64 O,.int .i64 (startI X)] W1 (ff 4) w5:=allN_atF hk 4 (by decide) (by decide)
  simp [AllN] at hk
  simp only [frameL,hk]
  clear hk
  obtain⟨b,w0,e4,g1,g2,g3,g4⟩:=h4
  rw [e4]
  have HF:=Lib.hid (And.intro g1 (And.intro g2 (And.intro g3 g4)))
  have HB5:=Lib.hid (bel_on HB1.out (bel_undrew hb5))
  have HZ:=Lib.hid (And.intro HB1.out.size g2.size)
  have HB0:=Lib.hid (bel_on HB1.out g2)
  clear g1 g2 g3 g4 e4 hb5 HL1 HB1
  go_wp2
  go_ret
  obtain⟨g1,g2,g3,g4⟩:=HF.out
  obtain⟨z1,z2⟩:=HZ.out
  exact⟨b,A2,1,([[0]]:List (List Int)),w0,rfl,HEQ.out,⟨HS1.out.below g2 (Nat.le_refl _),HTT.out _ HB0.out,by omega,HWD.out.1,HWD.out.2.1,HWD.out.2.2⟩,g3,g4,by omega,HB5.out⟩
 ·have hN:Hid (ls=nulL ls):=Lib.hid (by unfold nulL;rw [if_neg (by omega)])
  have t2:(((seg ls 0).length:Int)==0)=false:=beq_eq_false_iff_ne.2 (by omega)
  clear hl hs hz
  go_enter Tryd.func20,Tryd.ntmps20
  go_wp2_with fail
  refine abs_code10 (F:=fun W=>Blk W w.heap.size #[.int .i64 D,.int .i64 X,.int .i64 O]∧Below w.heap.size w W∧Sg W (some ⟨b,off,none⟩) ls) ⟨?_,?_,?_⟩ ?_
  ·exact Blk.fresh _ _ _
  ·exact HBL.out
  ·exact HS.out
  clear HBL HS t0 t1 t2 hc
  rintro W1 ⟨h1,h2,h3⟩
  have HL1:=Lib.hid h1
  have HB1:=Lib.hid h2
  have HS1:=Lib.hid h3
  have HTT:=Lib.hid (fun (W:World) (h:Below w.heap.size w W)=>hT.on h)
  have HEQ:Hid (ls=nulL ls):=Lib.hid (hN.out)
  have HWD:Hid (Wd2 (ls)∧(ls).length≤40∧∀j,(seg (ls) j).length≤20000000):=Lib.hid (⟨hw,hm,hf⟩)
  clear h1 h2 h3 hT hw hm hf
  generalize (some (⟨b,off,none⟩:Addr))=A2 at *
  refine wp_region_chain (by kernel_rfl) (by kernel_rfl) ?_
  refine chain_val (u:=?_) [0] rfl (by kernel_rfl) trivial (fun ρ wc hbc hcn hq=>?_) ?_;rotate_left
  ·obtain⟨hcn,hfn⟩:=hcn
   simp at hq
   go_simp
   rfl
  refine chain_val (u:=?_) [3] rfl (by kernel_rfl) trivial (fun ρ wc hbc hcn hq=>?_) ?_;rotate_left
  ·obtain⟨hcn,hfn⟩:=hcn
   simp at hq
   have x2:=(HL1.out.drew.below hbc).cell
   go_simp
   rfl
  refine chain_val (u:=?_) [3] rfl (by kernel_rfl) trivial (fun ρ wc hbc hcn hq=>?_) ?_;rotate_left
  ·obtain⟨hcn,hfn⟩:=hcn
   simp at hq
   have x2:=(HL1.out.drew.below hbc).cell
   go_simp
   rfl
  refine chain_call (T:=Is (.agg #[.int .i64 (startI X)])) 32 [23] rfl (by kernel_rfl) trivial (stable_is _) (fun ρ wc hbc hcn hq=>?_) ?_
  ·obtain⟨hcn,hfn⟩:=hcn
   simp at hq
   refine⟨_,by go_simp;rfl,?_⟩
   refine(BStart_any _ _ _ _).mono ?_
   rintro e w' ⟨rfl,hbq⟩
   exact⟨_,rfl,rfl,hbq⟩
  refine chain_val (u:=?_) [21,22,24] rfl (by kernel_rfl) trivial (fun ρ wc hbc hcn hq=>?_) ?_;rotate_left
  ·obtain⟨hcn,hfn⟩:=hcn
   simp at hq
   go_simp
   rfl
  refine chain_new (T:=TrvF W1.heap.size #[.slice A2 ls.length c,.int .i64 D,.int .i64 X,.int .i64 O,.int .i64 (startI X)] W1) [25] rfl (by kernel_rfl) trivial (stable_trvf _ _ _) (fun ρ wc hbc hcn hq=>?_) ?_
  ·obtain⟨hcn,hfn⟩:=hcn
   simp at hq
   exact⟨_,_,by go_simp;rfl,TrvF.new hbc,(Below.refl _ _).alloc (Nat.le_refl _) _⟩
  refine chain_new (T:=TrvF W1.heap.size #[.slice A2 ls.length c,.int .i64 D,.int .i64 X,.int .i64 O,.int .i64 (startI X)] W1) [26] rfl (by kernel_rfl) trivial (stable_trvf _ _ _) (fun ρ wc hbc hcn hq=>?_) ?_
  ·obtain⟨hcn,hfn⟩:=hcn
   simp at hq
   exact⟨_,wc,by go_simp,hq,Below.refl _ _⟩
  refine chain_end_lit 27 rfl (fun ff w5 hb5 hk=>?_)
  have h4:TrvF W1.heap.size #[.slice A2 ls.length c,.int .i64 D,.int .i64 X,.int .i64 O,.int .i64 (startI X)] W1 (ff 4) w5:=allN_atF hk 4 (by decide) (by decide)
  simp [AllN] at hk
  simp only [frameL,hk]
  clear hk
  obtain⟨b,w0,e4,g1,g2,g3,g4⟩:=h4
  rw [e4]
  have HF:=Lib.hid (And.intro g1 (And.intro g2 (And.intro g3 g4)))
  have HB5:=Lib.hid (bel_on HB1.out (bel_undrew hb5))
  have HZ:=Lib.hid (And.intro HB1.out.size g2.size)
  have HB0:=Lib.hid (bel_on HB1.out g2)
  clear g1 g2 g3 g4 e4 hb5 HL1 HB1
  go_wp2
  go_ret
  obtain⟨g1,g2,g3,g4⟩:=HF.out
  obtain⟨z1,z2⟩:=HZ.out
  exact⟨b,A2,c,ls,w0,rfl,HEQ.out,⟨HS1.out.below g2 (Nat.le_refl _),HTT.out _ HB0.out,by omega,HWD.out.1,HWD.out.2.1,HWD.out.2.2⟩,g3,g4,by omega,HB5.out⟩
end
end Go.Proofs.YtfaflahfjgnphaaDoor
