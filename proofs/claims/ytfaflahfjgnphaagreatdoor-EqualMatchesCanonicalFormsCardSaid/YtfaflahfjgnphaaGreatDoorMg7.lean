/- The texts PtrRunB (what is wanted of them), one after the other. -/
import Derived.Test.YtfaflahfjgnphaaGreatDoorMg4
import Derived.Test.YtfaflahfjgnphaaGreatDoorMg5
namespace Go.Proofs.YtfaflahfjgnphaaGreatDoor
open Go.ChangeShapes Go.WideShapes Go.ChangeAt Go.RowKit
set_option linter.unusedVariables false
set_option linter.unusedSimpArgs false
set_option maxRecDepth 100000
section
attribute [local simp] AllK KnowsV look Is
set_option maxHeartbeats 1000000 in
theorem run_dec2 (x:Int)(w:World)(h5:0≤x)(h6:x<18446744073709551616)(hk:x % 4=2):
  Calls Tryz.prog 78 #[.agg #[.int .u64 x,.int .i64 0,.int .i64 0,.int .i64 0,.int .i64 0,.int .i64 0,.int .i64 0,.bool false,.int .i64 0,.int .u32 0,.int .u32 0,.bool false]] w fun e w'=>e=.returned (.tuple #[.agg #[.int .u64 x,.int .i64 2,.int .i64 0,.int .i64 0,.int .i64 0,.int .i64 0,.int .i64 0,.bool (fld x 2 1==1),.int .i64 (fld x 3 29),.int .u32 (fld x 32 32),.int .u32 0,.bool false],.bool true])∧Below w.heap.size w w':=by
 have HK:=Lib.hid ((f_0_2 x h5).trans hk)
 clear hk
 go_enter Tryz.func78,Tryz.ntmps78
 go_wp2_with fail
 refine(unsigned_dec w.heap.size 1 x 0 0 2 _ (by go_simp) (by go_simp) (by go_simp) (by go_simp) (by omega) (by omega) (by omega) (by omega) h5 h6).mono ?_
 rintro e w' ⟨rfl,rfl⟩
 rw [HK.out]
 go_wp2_with fail
 rename_i KK hKK
 refine wp_region_chain (by kernel_rfl) (by kernel_rfl) ?_
 refine chain_call (T:=IsMap ents 4) 105 [] rfl (by kernel_rfl) trivial (IsMap.stab _ _) (fun ρ w1 hb hc hk=>?_) ?_
 ·obtain⟨hc,hfn⟩:=hc
  refine⟨_,by go_simp;rfl,?_⟩
  refine(layouts_any _).mono ?_
  rintro e w' ⟨rfl,rfl⟩
  exact⟨_,rfl,⟨_,rfl,by unfold World.alloc;simp⟩,(Below.refl _ _).alloc (Nat.le_refl _) _⟩
 refine chain_val (u:=?_) [1] rfl (by kernel_rfl) trivial (fun ρ w1 hb hc hk=>?_) ?_;rotate_left
 ·obtain⟨hc,hfn⟩:=hc
  simp at hk
  go_simp
  rfl
 refine chain_val (u:=?_) [11] rfl (by kernel_rfl) trivial (fun ρ w1 hb hc hk=>?_) ?_;rotate_left
 ·obtain⟨hc,hfn⟩:=hc
  simp at hk
  go_simp
  rfl
 refine chain_val (u:=.int .i64 2) [12] rfl (by kernel_rfl) trivial (fun ρ w1 hb hc hk=>?_) ?_
 ·obtain⟨hc,hfn⟩:=hc
  simp at hk
  have hcell:=hb.cell (p:=⟨w.heap.size,1,none⟩) (by simp;omega)
  simp at hcell
  go_simp
 refine chain_val (u:=?_) [10,13] rfl (by kernel_rfl) trivial (fun ρ w1 hb hc hk=>?_) ?_;rotate_left
 ·obtain⟨hc,hfn⟩:=hc
  simp at hk
  obtain⟨⟨r,hk1,hk3⟩,hk2⟩:=hk
  have hl:=lays2 w1 r hk3
  go_simp
  rfl
 refine chain_val (u:=?_) [14] rfl (by kernel_rfl) trivial (fun ρ w1 hb hc hk=>?_) ?_;rotate_left
 ·obtain⟨hc,hfn⟩:=hc
  simp at hk
  go_simp
  rfl
 refine chain_val (u:=?_) [9] rfl (by kernel_rfl) trivial (fun ρ w1 hb hc hk=>?_) ?_;rotate_left
 ·obtain⟨hc,hfn⟩:=hc
  simp at hk
  go_simp
  rfl
 refine chain_val (u:=?_) [9] rfl (by kernel_rfl) trivial (fun ρ w1 hb hc hk=>?_) ?_;rotate_left
 ·obtain⟨hc,hfn⟩:=hc
  simp at hk
  go_simp
  rfl
 refine chain_val (u:=?_) [15] rfl (by kernel_rfl) trivial (fun ρ w1 hb hc hk=>?_) ?_;rotate_left
 ·obtain⟨hc,hfn⟩:=hc
  simp at hk
  go_simp
  rfl
 refine chain_val (u:=?_) [16] rfl (by kernel_rfl) trivial (fun ρ w1 hb hc hk=>?_) ?_;rotate_left
 ·obtain⟨hc,hfn⟩:=hc
  simp at hk
  go_simp
  rfl
 refine chain_end_lit 23 rfl (fun ff w1 hb hk=>?_)
 refine hKK _ _ ?_
 clear hKK KK
 simp [AllN] at hk
 simp only [frameL,hk]
 obtain⟨hc,hf⟩:=bcell hb
 have hz:w.heap.size+1<w1.heap.size:=by have:=hb.size;simp at this;omega
 have HB:=Lib.hid hb
 clear hb hk
 simp at hc hf
 go_wp2_with fail
 refine(layout3_dec x 2 0 0 0 0 0 0 0 0 false w1 h5 h6).mono ?_
 rintro e w2 ⟨rfl,hb2⟩
 have hz2:w.heap.size+1<w2.heap.size:=by have:=hb2.size;omega
 obtain⟨hc2,hf2⟩:=bcell hb2
 have HB2:=Lib.hid hb2
 clear hb2
 go_wp2
 refine bodyPost_ret (v:=.tuple #[.agg #[.int .u64 x,.int .i64 2,.int .i64 0,.int .i64 0,.int .i64 0,.int .i64 0,.int .i64 0,.bool (fld x 2 1==1),.int .i64 (fld x 3 29),.int .u32 (fld x 32 32),.int .u32 0,.bool false],.bool true]) (by simp [results,Tryz.results78,go_sem,hc2,hc,hz,hz2]) rfl ⟨rfl,?_⟩
 have b1:Below w.heap.size w w1:=by
  refine Below.trans ?_ (HB.out.mono (by simp;omega))
  repeat (first|refine bel_drew ?_|refine Below.setCell ?_ (by simp) _)
  exact((Below.refl _ _).alloc (Nat.le_refl _) _).alloc (by simp) _
 have b2:Below w.heap.size w w2:=b1.trans (HB2.out.mono (by omega))
 repeat (refine Below.setCell ?_ (by simp) _)
 exact b2
set_option maxHeartbeats 1000000 in
theorem run_dec3 (x:Int)(w:World)(h5:0≤x)(h6:x<18446744073709551616)(hk:x % 4=3):
  Calls Tryz.prog 78 #[.agg #[.int .u64 x,.int .i64 0,.int .i64 0,.int .i64 0,.int .i64 0,.int .i64 0,.int .i64 0,.bool false,.int .i64 0,.int .u32 0,.int .u32 0,.bool false]] w fun e w'=>e=.returned (.tuple #[.agg #[.int .u64 x,.int .i64 3,.int .i64 0,.int .i64 0,.int .i64 0,.int .i64 0,.int .i64 0,.bool false,.int .i64 0,.int .u32 (fld x 32 32),.int .u32 (fld x 2 30),.bool false],.bool true])∧Below w.heap.size w w':=by
 have HK:=Lib.hid ((f_0_2 x h5).trans hk)
 clear hk
 go_enter Tryz.func78,Tryz.ntmps78
 go_wp2_with fail
 refine(unsigned_dec w.heap.size 1 x 0 0 2 _ (by go_simp) (by go_simp) (by go_simp) (by go_simp) (by omega) (by omega) (by omega) (by omega) h5 h6).mono ?_
 rintro e w' ⟨rfl,rfl⟩
 rw [HK.out]
 go_wp2_with fail
 rename_i KK hKK
 refine wp_region_chain (by kernel_rfl) (by kernel_rfl) ?_
 refine chain_call (T:=IsMap ents 4) 105 [] rfl (by kernel_rfl) trivial (IsMap.stab _ _) (fun ρ w1 hb hc hk=>?_) ?_
 ·obtain⟨hc,hfn⟩:=hc
  refine⟨_,by go_simp;rfl,?_⟩
  refine(layouts_any _).mono ?_
  rintro e w' ⟨rfl,rfl⟩
  exact⟨_,rfl,⟨_,rfl,by unfold World.alloc;simp⟩,(Below.refl _ _).alloc (Nat.le_refl _) _⟩
 refine chain_val (u:=?_) [1] rfl (by kernel_rfl) trivial (fun ρ w1 hb hc hk=>?_) ?_;rotate_left
 ·obtain⟨hc,hfn⟩:=hc
  simp at hk
  go_simp
  rfl
 refine chain_val (u:=?_) [11] rfl (by kernel_rfl) trivial (fun ρ w1 hb hc hk=>?_) ?_;rotate_left
 ·obtain⟨hc,hfn⟩:=hc
  simp at hk
  go_simp
  rfl
 refine chain_val (u:=.int .i64 3) [12] rfl (by kernel_rfl) trivial (fun ρ w1 hb hc hk=>?_) ?_
 ·obtain⟨hc,hfn⟩:=hc
  simp at hk
  have hcell:=hb.cell (p:=⟨w.heap.size,1,none⟩) (by simp;omega)
  simp at hcell
  go_simp
 refine chain_val (u:=?_) [10,13] rfl (by kernel_rfl) trivial (fun ρ w1 hb hc hk=>?_) ?_;rotate_left
 ·obtain⟨hc,hfn⟩:=hc
  simp at hk
  obtain⟨⟨r,hk1,hk3⟩,hk2⟩:=hk
  have hl:=lays3 w1 r hk3
  go_simp
  rfl
 refine chain_val (u:=?_) [14] rfl (by kernel_rfl) trivial (fun ρ w1 hb hc hk=>?_) ?_;rotate_left
 ·obtain⟨hc,hfn⟩:=hc
  simp at hk
  go_simp
  rfl
 refine chain_val (u:=?_) [9] rfl (by kernel_rfl) trivial (fun ρ w1 hb hc hk=>?_) ?_;rotate_left
 ·obtain⟨hc,hfn⟩:=hc
  simp at hk
  go_simp
  rfl
 refine chain_val (u:=?_) [9] rfl (by kernel_rfl) trivial (fun ρ w1 hb hc hk=>?_) ?_;rotate_left
 ·obtain⟨hc,hfn⟩:=hc
  simp at hk
  go_simp
  rfl
 refine chain_val (u:=?_) [15] rfl (by kernel_rfl) trivial (fun ρ w1 hb hc hk=>?_) ?_;rotate_left
 ·obtain⟨hc,hfn⟩:=hc
  simp at hk
  go_simp
  rfl
 refine chain_val (u:=?_) [16] rfl (by kernel_rfl) trivial (fun ρ w1 hb hc hk=>?_) ?_;rotate_left
 ·obtain⟨hc,hfn⟩:=hc
  simp at hk
  go_simp
  rfl
 refine chain_end_lit 23 rfl (fun ff w1 hb hk=>?_)
 refine hKK _ _ ?_
 clear hKK KK
 simp [AllN] at hk
 simp only [frameL,hk]
 obtain⟨hc,hf⟩:=bcell hb
 have hz:w.heap.size+1<w1.heap.size:=by have:=hb.size;simp at this;omega
 have HB:=Lib.hid hb
 clear hb hk
 simp at hc hf
 go_wp2_with fail
 refine(layout4_dec x 3 0 0 0 0 0 0 0 0 false w1 h5 h6).mono ?_
 rintro e w2 ⟨rfl,hb2⟩
 have hz2:w.heap.size+1<w2.heap.size:=by have:=hb2.size;omega
 obtain⟨hc2,hf2⟩:=bcell hb2
 have HB2:=Lib.hid hb2
 clear hb2
 go_wp2
 refine bodyPost_ret (v:=.tuple #[.agg #[.int .u64 x,.int .i64 3,.int .i64 0,.int .i64 0,.int .i64 0,.int .i64 0,.int .i64 0,.bool false,.int .i64 0,.int .u32 (fld x 32 32),.int .u32 (fld x 2 30),.bool false],.bool true]) (by simp [results,Tryz.results78,go_sem,hc2,hc,hz,hz2]) rfl ⟨rfl,?_⟩
 have b1:Below w.heap.size w w1:=by
  refine Below.trans ?_ (HB.out.mono (by simp;omega))
  repeat (first|refine bel_drew ?_|refine Below.setCell ?_ (by simp) _)
  exact((Below.refl _ _).alloc (Nat.le_refl _) _).alloc (by simp) _
 have b2:Below w.heap.size w w2:=b1.trans (HB2.out.mono (by omega))
 repeat (refine Below.setCell ?_ (by simp) _)
 exact b2
end
end Go.Proofs.YtfaflahfjgnphaaGreatDoor
