/- The texts PtrRunC (what is wanted of them), one after the other. -/
import Derived.Test.YtbpmeppdjicmhaaGreatDoorMg5
import Derived.Test.YtbpmeppdjicmhaaGreatDoorMg10
namespace Go.Proofs.YtbpmeppdjicmhaaGreatDoor
open Go.ChangeShapes Go.WideShapes Go.ChangeAt Go.RowKit
set_option linter.unusedVariables false
set_option linter.unusedSimpArgs false
set_option maxRecDepth 100000
section
attribute [local simp] AllK KnowsV look Is
set_option maxHeartbeats 1000000 in
theorem run_enc0 (o d p el c pa sg lo:Int)(db:Bool)(w:World):
  Calls Tryz.prog 123 #[.agg #[.int .u64 0,.int .i64 0,.int .i64 o,.int .i64 d,.int .i64 p,.int .i64 el,.int .i64 c,.bool db,.int .i64 pa,.int .u32 sg,.int .u32 lo,.bool true]] w fun e w'=>e=.returned (.tuple #[.agg #[.int .u64 (ins (ins (ins 0 2 30 (IntKind.u64.wrap o)) 32 16 (IntKind.u64.wrap d)) 48 16 (IntKind.u64.wrap p)),.int .i64 0,.int .i64 o,.int .i64 d,.int .i64 p,.int .i64 el,.int .i64 c,.bool db,.int .i64 pa,.int .u32 sg,.int .u32 lo,.bool true],.bool true])∧Below w.heap.size w w':=by
 have HI:=Lib.hid (i_0_2 0)
 go_enter Tryz.func123,Tryz.ntmps123
 go_wp2_with fail
 refine(unsigned_enc w.heap.size 1 0 0 0 2 _ (by go_simp) (by go_simp) (by go_simp) (by go_simp) (by omega) (by omega) (by omega) (by omega) (by omega)).mono ?_
 rintro e w' ⟨rfl,rfl⟩
 rw [HI.out]
 simp only [show (0:Int) % 4=0 by decide]
 go_wp2_with fail
 rename_i KK hKK
 refine wp_region_chain (by kernel_rfl) (by kernel_rfl) ?_
 refine chain_call (T:=IsMap ents 4) 140 [] rfl (by kernel_rfl) trivial (IsMap.stab _ _) (fun ρ w1 hb hc hk=>?_) ?_
 ·obtain⟨hc,hfn⟩:=hc
  refine⟨_,by go_simp;rfl,?_⟩
  refine(layouts_any _).mono ?_
  rintro e w' ⟨rfl,rfl⟩
  exact⟨_,rfl,⟨_,rfl,by unfold World.alloc;simp⟩,(Below.refl _ _).alloc (Nat.le_refl _) _⟩
 refine chain_val (u:=?_) [1] rfl (by kernel_rfl) trivial (fun ρ w1 hb hc hk=>?_) ?_;rotate_left
 ·obtain⟨hc,hfn⟩:=hc
  simp at hk
  go_simp
  rfl
 refine chain_val (u:=?_) [11] rfl (by kernel_rfl) trivial (fun ρ w1 hb hc hk=>?_) ?_;rotate_left
 ·obtain⟨hc,hfn⟩:=hc
  simp at hk
  go_simp
  rfl
 refine chain_val (u:=.int .i64 0) [12] rfl (by kernel_rfl) trivial (fun ρ w1 hb hc hk=>?_) ?_
 ·obtain⟨hc,hfn⟩:=hc
  simp at hk
  have hcell:=hb.cell (p:=⟨w.heap.size,1,none⟩) (by simp;omega)
  simp at hcell
  go_simp
 refine chain_val (u:=?_) [10,13] rfl (by kernel_rfl) trivial (fun ρ w1 hb hc hk=>?_) ?_;rotate_left
 ·obtain⟨hc,hfn⟩:=hc
  simp at hk
  obtain⟨⟨r,hk1,hk3⟩,hk2⟩:=hk
  have hl:=lays0 w1 r hk3
  go_simp
  rfl
 refine chain_val (u:=?_) [14] rfl (by kernel_rfl) trivial (fun ρ w1 hb hc hk=>?_) ?_;rotate_left
 ·obtain⟨hc,hfn⟩:=hc
  simp at hk
  go_simp
  rfl
 refine chain_val (u:=?_) [9] rfl (by kernel_rfl) trivial (fun ρ w1 hb hc hk=>?_) ?_;rotate_left
 ·obtain⟨hc,hfn⟩:=hc
  simp at hk
  go_simp
  rfl
 refine chain_val (u:=?_) [9] rfl (by kernel_rfl) trivial (fun ρ w1 hb hc hk=>?_) ?_;rotate_left
 ·obtain⟨hc,hfn⟩:=hc
  simp at hk
  go_simp
  rfl
 refine chain_val (u:=?_) [15] rfl (by kernel_rfl) trivial (fun ρ w1 hb hc hk=>?_) ?_;rotate_left
 ·obtain⟨hc,hfn⟩:=hc
  simp at hk
  go_simp
  rfl
 refine chain_val (u:=?_) [16] rfl (by kernel_rfl) trivial (fun ρ w1 hb hc hk=>?_) ?_;rotate_left
 ·obtain⟨hc,hfn⟩:=hc
  simp at hk
  go_simp
  rfl
 refine chain_end_lit 23 rfl (fun ff w1 hb hk=>?_)
 refine hKK _ _ ?_
 clear hKK KK
 simp [AllN] at hk
 simp only [frameL,hk]
 obtain⟨hc,hf⟩:=bcell hb
 have hz:w.heap.size+1<w1.heap.size:=by have:=hb.size;simp at this;omega
 have HB:=Lib.hid hb
 clear hb hk
 simp at hc hf
 go_wp2_with fail
 refine(layout1_enc 0 0 o d p el c pa sg lo w1 (by omega) (by omega) db).mono ?_
 rintro e w2 ⟨rfl,hb2⟩
 have hz2:w.heap.size+1<w2.heap.size:=by have:=hb2.size;omega
 obtain⟨hc2,hf2⟩:=bcell hb2
 have HB2:=Lib.hid hb2
 clear hb2
 go_wp2
 refine bodyPost_ret (v:=.tuple #[.agg #[.int .u64 (ins (ins (ins 0 2 30 (IntKind.u64.wrap o)) 32 16 (IntKind.u64.wrap d)) 48 16 (IntKind.u64.wrap p)),.int .i64 0,.int .i64 o,.int .i64 d,.int .i64 p,.int .i64 el,.int .i64 c,.bool db,.int .i64 pa,.int .u32 sg,.int .u32 lo,.bool true],.bool true]) (by simp [results,Tryz.results123,go_sem,hc2,hc,hz,hz2]) rfl ⟨rfl,?_⟩
 have b1:Below w.heap.size w w1:=by
  refine Below.trans ?_ (HB.out.mono (by simp;omega))
  repeat (first|refine bel_drew ?_|refine Below.setCell ?_ (by simp) _)
  exact((Below.refl _ _).alloc (Nat.le_refl _) _).alloc (by simp) _
 have b2:Below w.heap.size w w2:=b1.trans (HB2.out.mono (by omega))
 repeat (refine Below.setCell ?_ (by simp) _)
 exact b2
set_option maxHeartbeats 1000000 in
theorem run_enc1 (o d p el c pa sg lo:Int)(db:Bool)(w:World):
  Calls Tryz.prog 123 #[.agg #[.int .u64 0,.int .i64 1,.int .i64 o,.int .i64 d,.int .i64 p,.int .i64 el,.int .i64 c,.bool db,.int .i64 pa,.int .u32 sg,.int .u32 lo,.bool true]] w fun e w'=>e=.returned (.tuple #[.agg #[.int .u64 (ins (ins (ins 1 2 30 (IntKind.u64.wrap o)) 32 3 (IntKind.u64.wrap el)) 35 29 (IntKind.u64.wrap c)),.int .i64 1,.int .i64 o,.int .i64 d,.int .i64 p,.int .i64 el,.int .i64 c,.bool db,.int .i64 pa,.int .u32 sg,.int .u32 lo,.bool true],.bool true])∧Below w.heap.size w w':=by
 have HI:=Lib.hid (i_0_2 1)
 go_enter Tryz.func123,Tryz.ntmps123
 go_wp2_with fail
 refine(unsigned_enc w.heap.size 1 0 1 0 2 _ (by go_simp) (by go_simp) (by go_simp) (by go_simp) (by omega) (by omega) (by omega) (by omega) (by omega)).mono ?_
 rintro e w' ⟨rfl,rfl⟩
 rw [HI.out]
 simp only [show (1:Int) % 4=1 by decide]
 go_wp2_with fail
 rename_i KK hKK
 refine wp_region_chain (by kernel_rfl) (by kernel_rfl) ?_
 refine chain_call (T:=IsMap ents 4) 140 [] rfl (by kernel_rfl) trivial (IsMap.stab _ _) (fun ρ w1 hb hc hk=>?_) ?_
 ·obtain⟨hc,hfn⟩:=hc
  refine⟨_,by go_simp;rfl,?_⟩
  refine(layouts_any _).mono ?_
  rintro e w' ⟨rfl,rfl⟩
  exact⟨_,rfl,⟨_,rfl,by unfold World.alloc;simp⟩,(Below.refl _ _).alloc (Nat.le_refl _) _⟩
 refine chain_val (u:=?_) [1] rfl (by kernel_rfl) trivial (fun ρ w1 hb hc hk=>?_) ?_;rotate_left
 ·obtain⟨hc,hfn⟩:=hc
  simp at hk
  go_simp
  rfl
 refine chain_val (u:=?_) [11] rfl (by kernel_rfl) trivial (fun ρ w1 hb hc hk=>?_) ?_;rotate_left
 ·obtain⟨hc,hfn⟩:=hc
  simp at hk
  go_simp
  rfl
 refine chain_val (u:=.int .i64 1) [12] rfl (by kernel_rfl) trivial (fun ρ w1 hb hc hk=>?_) ?_
 ·obtain⟨hc,hfn⟩:=hc
  simp at hk
  have hcell:=hb.cell (p:=⟨w.heap.size,1,none⟩) (by simp;omega)
  simp at hcell
  go_simp
 refine chain_val (u:=?_) [10,13] rfl (by kernel_rfl) trivial (fun ρ w1 hb hc hk=>?_) ?_;rotate_left
 ·obtain⟨hc,hfn⟩:=hc
  simp at hk
  obtain⟨⟨r,hk1,hk3⟩,hk2⟩:=hk
  have hl:=lays1 w1 r hk3
  go_simp
  rfl
 refine chain_val (u:=?_) [14] rfl (by kernel_rfl) trivial (fun ρ w1 hb hc hk=>?_) ?_;rotate_left
 ·obtain⟨hc,hfn⟩:=hc
  simp at hk
  go_simp
  rfl
 refine chain_val (u:=?_) [9] rfl (by kernel_rfl) trivial (fun ρ w1 hb hc hk=>?_) ?_;rotate_left
 ·obtain⟨hc,hfn⟩:=hc
  simp at hk
  go_simp
  rfl
 refine chain_val (u:=?_) [9] rfl (by kernel_rfl) trivial (fun ρ w1 hb hc hk=>?_) ?_;rotate_left
 ·obtain⟨hc,hfn⟩:=hc
  simp at hk
  go_simp
  rfl
 refine chain_val (u:=?_) [15] rfl (by kernel_rfl) trivial (fun ρ w1 hb hc hk=>?_) ?_;rotate_left
 ·obtain⟨hc,hfn⟩:=hc
  simp at hk
  go_simp
  rfl
 refine chain_val (u:=?_) [16] rfl (by kernel_rfl) trivial (fun ρ w1 hb hc hk=>?_) ?_;rotate_left
 ·obtain⟨hc,hfn⟩:=hc
  simp at hk
  go_simp
  rfl
 refine chain_end_lit 23 rfl (fun ff w1 hb hk=>?_)
 refine hKK _ _ ?_
 clear hKK KK
 simp [AllN] at hk
 simp only [frameL,hk]
 obtain⟨hc,hf⟩:=bcell hb
 have hz:w.heap.size+1<w1.heap.size:=by have:=hb.size;simp at this;omega
 have HB:=Lib.hid hb
 clear hb hk
 simp at hc hf
 go_wp2_with fail
 refine(layout2_enc 1 1 o d p el c pa sg lo w1 (by omega) (by omega) db).mono ?_
 rintro e w2 ⟨rfl,hb2⟩
 have hz2:w.heap.size+1<w2.heap.size:=by have:=hb2.size;omega
 obtain⟨hc2,hf2⟩:=bcell hb2
 have HB2:=Lib.hid hb2
 clear hb2
 go_wp2
 refine bodyPost_ret (v:=.tuple #[.agg #[.int .u64 (ins (ins (ins 1 2 30 (IntKind.u64.wrap o)) 32 3 (IntKind.u64.wrap el)) 35 29 (IntKind.u64.wrap c)),.int .i64 1,.int .i64 o,.int .i64 d,.int .i64 p,.int .i64 el,.int .i64 c,.bool db,.int .i64 pa,.int .u32 sg,.int .u32 lo,.bool true],.bool true]) (by simp [results,Tryz.results123,go_sem,hc2,hc,hz,hz2]) rfl ⟨rfl,?_⟩
 have b1:Below w.heap.size w w1:=by
  refine Below.trans ?_ (HB.out.mono (by simp;omega))
  repeat (first|refine bel_drew ?_|refine Below.setCell ?_ (by simp) _)
  exact((Below.refl _ _).alloc (Nat.le_refl _) _).alloc (by simp) _
 have b2:Below w.heap.size w w2:=b1.trans (HB2.out.mono (by omega))
 repeat (refine Below.setCell ?_ (by simp) _)
 exact b2
set_option maxHeartbeats 1000000 in
theorem run_enc2_true (o d p el c pa sg lo:Int)(w:World):
  Calls Tryz.prog 123 #[.agg #[.int .u64 0,.int .i64 2,.int .i64 o,.int .i64 d,.int .i64 p,.int .i64 el,.int .i64 c,.bool true,.int .i64 pa,.int .u32 sg,.int .u32 lo,.bool true]] w fun e w'=>e=.returned (.tuple #[.agg #[.int .u64 (ins (ins (ins 2 2 1 1) 3 29 (IntKind.u64.wrap pa)) 32 32 (IntKind.u64.wrap sg)),.int .i64 2,.int .i64 o,.int .i64 d,.int .i64 p,.int .i64 el,.int .i64 c,.bool true,.int .i64 pa,.int .u32 sg,.int .u32 lo,.bool true],.bool true])∧Below w.heap.size w w':=by
 have HI:=Lib.hid (i_0_2 2)
 go_enter Tryz.func123,Tryz.ntmps123
 go_wp2_with fail
 refine(unsigned_enc w.heap.size 1 0 2 0 2 _ (by go_simp) (by go_simp) (by go_simp) (by go_simp) (by omega) (by omega) (by omega) (by omega) (by omega)).mono ?_
 rintro e w' ⟨rfl,rfl⟩
 rw [HI.out]
 simp only [show (2:Int) % 4=2 by decide]
 go_wp2_with fail
 rename_i KK hKK
 refine wp_region_chain (by kernel_rfl) (by kernel_rfl) ?_
 refine chain_call (T:=IsMap ents 4) 140 [] rfl (by kernel_rfl) trivial (IsMap.stab _ _) (fun ρ w1 hb hc hk=>?_) ?_
 ·obtain⟨hc,hfn⟩:=hc
  refine⟨_,by go_simp;rfl,?_⟩
  refine(layouts_any _).mono ?_
  rintro e w' ⟨rfl,rfl⟩
  exact⟨_,rfl,⟨_,rfl,by unfold World.alloc;simp⟩,(Below.refl _ _).alloc (Nat.le_refl _) _⟩
 refine chain_val (u:=?_) [1] rfl (by kernel_rfl) trivial (fun ρ w1 hb hc hk=>?_) ?_;rotate_left
 ·obtain⟨hc,hfn⟩:=hc
  simp at hk
  go_simp
  rfl
 refine chain_val (u:=?_) [11] rfl (by kernel_rfl) trivial (fun ρ w1 hb hc hk=>?_) ?_;rotate_left
 ·obtain⟨hc,hfn⟩:=hc
  simp at hk
  go_simp
  rfl
 refine chain_val (u:=.int .i64 2) [12] rfl (by kernel_rfl) trivial (fun ρ w1 hb hc hk=>?_) ?_
 ·obtain⟨hc,hfn⟩:=hc
  simp at hk
  have hcell:=hb.cell (p:=⟨w.heap.size,1,none⟩) (by simp;omega)
  simp at hcell
  go_simp
 refine chain_val (u:=?_) [10,13] rfl (by kernel_rfl) trivial (fun ρ w1 hb hc hk=>?_) ?_;rotate_left
 ·obtain⟨hc,hfn⟩:=hc
  simp at hk
  obtain⟨⟨r,hk1,hk3⟩,hk2⟩:=hk
  have hl:=lays2 w1 r hk3
  go_simp
  rfl
 refine chain_val (u:=?_) [14] rfl (by kernel_rfl) trivial (fun ρ w1 hb hc hk=>?_) ?_;rotate_left
 ·obtain⟨hc,hfn⟩:=hc
  simp at hk
  go_simp
  rfl
 refine chain_val (u:=?_) [9] rfl (by kernel_rfl) trivial (fun ρ w1 hb hc hk=>?_) ?_;rotate_left
 ·obtain⟨hc,hfn⟩:=hc
  simp at hk
  go_simp
  rfl
 refine chain_val (u:=?_) [9] rfl (by kernel_rfl) trivial (fun ρ w1 hb hc hk=>?_) ?_;rotate_left
 ·obtain⟨hc,hfn⟩:=hc
  simp at hk
  go_simp
  rfl
 refine chain_val (u:=?_) [15] rfl (by kernel_rfl) trivial (fun ρ w1 hb hc hk=>?_) ?_;rotate_left
 ·obtain⟨hc,hfn⟩:=hc
  simp at hk
  go_simp
  rfl
 refine chain_val (u:=?_) [16] rfl (by kernel_rfl) trivial (fun ρ w1 hb hc hk=>?_) ?_;rotate_left
 ·obtain⟨hc,hfn⟩:=hc
  simp at hk
  go_simp
  rfl
 refine chain_end_lit 23 rfl (fun ff w1 hb hk=>?_)
 refine hKK _ _ ?_
 clear hKK KK
 simp [AllN] at hk
 simp only [frameL,hk]
 obtain⟨hc,hf⟩:=bcell hb
 have hz:w.heap.size+1<w1.heap.size:=by have:=hb.size;simp at this;omega
 have HB:=Lib.hid hb
 clear hb hk
 simp at hc hf
 go_wp2_with fail
 refine(layout3_enc_true 2 2 o d p el c pa sg lo w1 (by omega) (by omega)).mono ?_
 rintro e w2 ⟨rfl,hb2⟩
 have hz2:w.heap.size+1<w2.heap.size:=by have:=hb2.size;omega
 obtain⟨hc2,hf2⟩:=bcell hb2
 have HB2:=Lib.hid hb2
 clear hb2
 go_wp2
 refine bodyPost_ret (v:=.tuple #[.agg #[.int .u64 (ins (ins (ins 2 2 1 1) 3 29 (IntKind.u64.wrap pa)) 32 32 (IntKind.u64.wrap sg)),.int .i64 2,.int .i64 o,.int .i64 d,.int .i64 p,.int .i64 el,.int .i64 c,.bool true,.int .i64 pa,.int .u32 sg,.int .u32 lo,.bool true],.bool true]) (by simp [results,Tryz.results123,go_sem,hc2,hc,hz,hz2]) rfl ⟨rfl,?_⟩
 have b1:Below w.heap.size w w1:=by
  refine Below.trans ?_ (HB.out.mono (by simp;omega))
  repeat (first|refine bel_drew ?_|refine Below.setCell ?_ (by simp) _)
  exact((Below.refl _ _).alloc (Nat.le_refl _) _).alloc (by simp) _
 have b2:Below w.heap.size w w2:=b1.trans (HB2.out.mono (by omega))
 repeat (refine Below.setCell ?_ (by simp) _)
 exact b2
end
end Go.Proofs.YtbpmeppdjicmhaaGreatDoor
