/- The fixed examples of layer 16: 'awake' is true. -/
import Derived.Test.YtclpapddejgpnaaDoorMg34
import Derived.Test.YtclpapddejgpnaaDoorMg45
namespace Go.Proofs.YtclpapddejgpnaaDoor
open Go.ChangeShapes Go.WideShapes Go.ChangeAt Go.RowKit
set_option linter.unusedVariables false
set_option linter.unusedSimpArgs false
set_option maxRecDepth 100000
section
theorem ri_at16 (w:World)(l:List Int)(q:Nat)(hq:q=w.heap.size){U:TypeId}:Ri (w.alloc (.cells (l.map (Value.int .u64)).toArray U)) .u64 (some ⟨q,0,none⟩) l:=by
 subst hq
 exact Ri.lit w .u64 l U
theorem wd16 {l:List Int}(h:∀z∈l,0≤z∧z<18446744073709551616):Wds l:=h
theorem ok16_0:chkB [4294967296,5] 5 50=true:=by kernel_rfl
theorem ok16_1:chkB [4294967296,0] 5 50=false:=by kernel_rfl
theorem ok16_2:chkB [4294967296,5,0] 5 50=false:=by kernel_rfl
theorem ok16_3:chkB [4294967300,0,5] 5 50=false:=by kernel_rfl
theorem ok16_4:chkB [0] 5 50=true:=by kernel_rfl
theorem ok16_5:chkB [] 5 50=false:=by kernel_rfl
theorem ok16_6:chkB [4294967292] 5 50=true:=by kernel_rfl
theorem ok16_7:chkB [562949953421312,0,0] 5 50=false:=by kernel_rfl
theorem ok16_8:chkB [107374182401,7] 5 50=true:=by kernel_rfl
theorem ok16_9:chkB [107374182401,15] 5 50=false:=by kernel_rfl
theorem ok16_10:chkB [98784247809,4294967304,0,5] 5 50=true:=by kernel_rfl
theorem ok16_11:chkB [98784247809,4294967304,0,0] 5 50=false:=by kernel_rfl
theorem ok16_12:chkB [4294967296,5] 5 0=false:=by kernel_rfl
attribute [local irreducible] chkB
set_option maxHeartbeats 4000000 in
set_option maxRecDepth 100000 in
theorem awake16_any (w:World)(hT:TabOK w):Calls Tryd.prog 8 #[] w fun e w'=>e=.returned (.bool true)∧Below w.heap.size w w':=by
 have HT:=Lib.hid hT
 clear hT
 go_enter Tryd.func8,Tryd.ntmps8
 go_wp2_with fail
 refine abs_world (F:=fun W=>Blk W w.heap.size #[.int .i64 5,.int .i64 50,.int .i64 0]∧Ri W .u64 (some ⟨w.heap.size+1,0,none⟩) [4294967296,5]∧Below w.heap.size w W) ⟨?_,?_,?_⟩ ?_
 ·exact(Blk.fresh _ _ _).alloc _
 ·exact ri_at16 _ [4294967296,5] _ (by simp)
 ·exact(((Below.refl w.heap.size w).alloc (by first|exact Nat.le_refl _|(simp;done)|(simp;omega)) _).alloc (by first|exact Nat.le_refl _|(simp;done)|(simp;omega)) _)
 rintro W1 ⟨hl,ht,hb⟩
 have Hl:=Lib.hid hl
 have Ht:=Lib.hid ht
 have HB:=Lib.hid hb
 clear hb hl ht
 refine(KWords_w (some ⟨w.heap.size+1,0,none⟩) 2 2 [4294967296,5] 5 50 0 true _ (HT.out.on HB.out) rfl Ht.out (wd16 (by decide)) (by decide) (fun h=>by cases h) (by decide) (by decide) (by decide) (by decide) ok16_0).mono ?_
 rintro r w2 ⟨rfl,hb⟩
 have fl:=Hl.out.below hb
 have ft:=Ht.out.below hb (Nat.le_refl _)
 have HB0:=Lib.hid (bel_on HB.out hb)
 clear hb Hl Ht HB
 have HB:=HB0
 clear HB0
 have Hl:=Lib.hid fl
 clear fl
 have Ht:=Lib.hid ft
 clear ft
 clear Ht
 obtain⟨xl,yl,zl⟩:=(Hl.out.alloc (.cells #[.int .u64 4294967296,.int .u64 0] 32))
 go_wp2_with fail
 refine abs_world (F:=fun W=>Blk W w.heap.size #[.int .i64 5,.int .i64 50,.int .i64 0]∧Ri W .u64 (some ⟨w2.heap.size,0,none⟩) [4294967296,0]∧Below w.heap.size w W) ⟨?_,?_,?_⟩ ?_
 ·exact(Hl.out.alloc _)
 ·exact ri_at16 _ [4294967296,0] _ rfl
 ·exact(HB.out.alloc (by first|exact Nat.le_refl _|(have:=HB.out.size;simp;omega)|(have:=HB.out.size;omega)|(simp;done)|(simp;omega)) _)
 clear Hl HB xl yl zl
 rintro W3 ⟨hl,ht,hb⟩
 have Hl:=Lib.hid hl
 have Ht:=Lib.hid ht
 have HB:=Lib.hid hb
 clear hb hl ht
 refine(KWords_w (some ⟨w2.heap.size,0,none⟩) 2 2 [4294967296,0] 5 50 0 false _ (HT.out.on HB.out) rfl Ht.out (wd16 (by decide)) (by decide) (fun h=>by cases h) (by decide) (by decide) (by decide) (by decide) ok16_1).mono ?_
 rintro r w4 ⟨rfl,hb⟩
 have fl:=Hl.out.below hb
 have ft:=Ht.out.below hb (Nat.le_refl _)
 have HB0:=Lib.hid (bel_on HB.out hb)
 clear hb Hl Ht HB
 have HB:=HB0
 clear HB0
 have Hl:=Lib.hid fl
 clear fl
 have Ht:=Lib.hid ft
 clear ft
 clear Ht
 obtain⟨xl,yl,zl⟩:=(Hl.out.alloc (.cells #[.int .u64 4294967296,.int .u64 5,.int .u64 0] 32))
 go_wp2_with fail
 refine abs_world (F:=fun W=>Blk W w.heap.size #[.int .i64 5,.int .i64 50,.int .i64 0]∧Ri W .u64 (some ⟨w4.heap.size,0,none⟩) [4294967296,5,0]∧Below w.heap.size w W) ⟨?_,?_,?_⟩ ?_
 ·exact(Hl.out.alloc _)
 ·exact ri_at16 _ [4294967296,5,0] _ rfl
 ·exact(HB.out.alloc (by first|exact Nat.le_refl _|(have:=HB.out.size;simp;omega)|(have:=HB.out.size;omega)|(simp;done)|(simp;omega)) _)
 clear Hl HB xl yl zl
 rintro W5 ⟨hl,ht,hb⟩
 have Hl:=Lib.hid hl
 have Ht:=Lib.hid ht
 have HB:=Lib.hid hb
 clear hb hl ht
 refine(KWords_w (some ⟨w4.heap.size,0,none⟩) 3 3 [4294967296,5,0] 5 50 0 false _ (HT.out.on HB.out) rfl Ht.out (wd16 (by decide)) (by decide) (fun h=>by cases h) (by decide) (by decide) (by decide) (by decide) ok16_2).mono ?_
 rintro r w6 ⟨rfl,hb⟩
 have fl:=Hl.out.below hb
 have ft:=Ht.out.below hb (Nat.le_refl _)
 have HB0:=Lib.hid (bel_on HB.out hb)
 clear hb Hl Ht HB
 have HB:=HB0
 clear HB0
 have Hl:=Lib.hid fl
 clear fl
 have Ht:=Lib.hid ft
 clear ft
 clear Ht
 obtain⟨xl,yl,zl⟩:=(Hl.out.alloc (.cells #[.int .u64 4294967300,.int .u64 0,.int .u64 5] 32))
 go_wp2_with fail
 refine abs_world (F:=fun W=>Blk W w.heap.size #[.int .i64 5,.int .i64 50,.int .i64 0]∧Ri W .u64 (some ⟨w6.heap.size,0,none⟩) [4294967300,0,5]∧Below w.heap.size w W) ⟨?_,?_,?_⟩ ?_
 ·exact(Hl.out.alloc _)
 ·exact ri_at16 _ [4294967300,0,5] _ rfl
 ·exact(HB.out.alloc (by first|exact Nat.le_refl _|(have:=HB.out.size;simp;omega)|(have:=HB.out.size;omega)|(simp;done)|(simp;omega)) _)
 clear Hl HB xl yl zl
 rintro W7 ⟨hl,ht,hb⟩
 have Hl:=Lib.hid hl
 have Ht:=Lib.hid ht
 have HB:=Lib.hid hb
 clear hb hl ht
 refine(KWords_w (some ⟨w6.heap.size,0,none⟩) 3 3 [4294967300,0,5] 5 50 0 false _ (HT.out.on HB.out) rfl Ht.out (wd16 (by decide)) (by decide) (fun h=>by cases h) (by decide) (by decide) (by decide) (by decide) ok16_3).mono ?_
 rintro r w8 ⟨rfl,hb⟩
 have fl:=Hl.out.below hb
 have ft:=Ht.out.below hb (Nat.le_refl _)
 have HB0:=Lib.hid (bel_on HB.out hb)
 clear hb Hl Ht HB
 have HB:=HB0
 clear HB0
 have Hl:=Lib.hid fl
 clear fl
 have Ht:=Lib.hid ft
 clear ft
 clear Ht
 obtain⟨xl,yl,zl⟩:=(Hl.out.alloc (.cells #[.int .u64 0] 32))
 go_wp2_with fail
 refine abs_world (F:=fun W=>Blk W w.heap.size #[.int .i64 5,.int .i64 50,.int .i64 0]∧Ri W .u64 (some ⟨w8.heap.size,0,none⟩) [0]∧Below w.heap.size w W) ⟨?_,?_,?_⟩ ?_
 ·exact(Hl.out.alloc _)
 ·exact ri_at16 _ [0] _ rfl
 ·exact(HB.out.alloc (by first|exact Nat.le_refl _|(have:=HB.out.size;simp;omega)|(have:=HB.out.size;omega)|(simp;done)|(simp;omega)) _)
 clear Hl HB xl yl zl
 rintro W9 ⟨hl,ht,hb⟩
 have Hl:=Lib.hid hl
 have Ht:=Lib.hid ht
 have HB:=Lib.hid hb
 clear hb hl ht
 refine(KWords_w (some ⟨w8.heap.size,0,none⟩) 1 1 [0] 5 50 0 true _ (HT.out.on HB.out) rfl Ht.out (wd16 (by decide)) (by decide) (fun h=>by cases h) (by decide) (by decide) (by decide) (by decide) ok16_4).mono ?_
 rintro r w10 ⟨rfl,hb⟩
 have fl:=Hl.out.below hb
 have ft:=Ht.out.below hb (Nat.le_refl _)
 have HB0:=Lib.hid (bel_on HB.out hb)
 clear hb Hl Ht HB
 have HB:=HB0
 clear HB0
 have Hl:=Lib.hid fl
 clear fl
 have Ht:=Lib.hid ft
 clear ft
 clear Ht
 obtain⟨xl,yl,zl⟩:=Hl.out
 go_wp2_with fail
 clear xl yl zl
 refine(KWords_w none 0 0 [] 5 50 0 false _ (HT.out.on HB.out) rfl (Ri.nil _ _ _) (wd16 (by decide)) (by decide) (fun _=>rfl) (by decide) (by decide) (by decide) (by decide) ok16_5).mono ?_
 rintro r w11 ⟨rfl,hb⟩
 have fl:=Hl.out.below hb
 have HB0:=Lib.hid (bel_on HB.out hb)
 clear hb Hl HB
 have HB:=HB0
 clear HB0
 have Hl:=Lib.hid fl
 clear fl
 obtain⟨xl,yl,zl⟩:=(Hl.out.alloc (.cells #[.int .u64 4294967292] 32))
 go_wp2_with fail
 refine abs_world (F:=fun W=>Blk W w.heap.size #[.int .i64 5,.int .i64 50,.int .i64 0]∧Ri W .u64 (some ⟨w11.heap.size,0,none⟩) [4294967292]∧Below w.heap.size w W) ⟨?_,?_,?_⟩ ?_
 ·exact(Hl.out.alloc _)
 ·exact ri_at16 _ [4294967292] _ rfl
 ·exact(HB.out.alloc (by first|exact Nat.le_refl _|(have:=HB.out.size;simp;omega)|(have:=HB.out.size;omega)|(simp;done)|(simp;omega)) _)
 clear Hl HB xl yl zl
 rintro W12 ⟨hl,ht,hb⟩
 have Hl:=Lib.hid hl
 have Ht:=Lib.hid ht
 have HB:=Lib.hid hb
 clear hb hl ht
 refine(KWords_w (some ⟨w11.heap.size,0,none⟩) 1 1 [4294967292] 5 50 0 true _ (HT.out.on HB.out) rfl Ht.out (wd16 (by decide)) (by decide) (fun h=>by cases h) (by decide) (by decide) (by decide) (by decide) ok16_6).mono ?_
 rintro r w13 ⟨rfl,hb⟩
 have fl:=Hl.out.below hb
 have ft:=Ht.out.below hb (Nat.le_refl _)
 have HB0:=Lib.hid (bel_on HB.out hb)
 clear hb Hl Ht HB
 have HB:=HB0
 clear HB0
 have Hl:=Lib.hid fl
 clear fl
 have Ht:=Lib.hid ft
 clear ft
 clear Ht
 obtain⟨xl,yl,zl⟩:=(Hl.out.alloc (.cells #[.int .u64 562949953421312,.int .u64 0,.int .u64 0] 32))
 go_wp2_with fail
 refine abs_world (F:=fun W=>Blk W w.heap.size #[.int .i64 5,.int .i64 50,.int .i64 0]∧Ri W .u64 (some ⟨w13.heap.size,0,none⟩) [562949953421312,0,0]∧Below w.heap.size w W) ⟨?_,?_,?_⟩ ?_
 ·exact(Hl.out.alloc _)
 ·exact ri_at16 _ [562949953421312,0,0] _ rfl
 ·exact(HB.out.alloc (by first|exact Nat.le_refl _|(have:=HB.out.size;simp;omega)|(have:=HB.out.size;omega)|(simp;done)|(simp;omega)) _)
 clear Hl HB xl yl zl
 rintro W14 ⟨hl,ht,hb⟩
 have Hl:=Lib.hid hl
 have Ht:=Lib.hid ht
 have HB:=Lib.hid hb
 clear hb hl ht
 refine(KWords_w (some ⟨w13.heap.size,0,none⟩) 3 3 [562949953421312,0,0] 5 50 0 false _ (HT.out.on HB.out) rfl Ht.out (wd16 (by decide)) (by decide) (fun h=>by cases h) (by decide) (by decide) (by decide) (by decide) ok16_7).mono ?_
 rintro r w15 ⟨rfl,hb⟩
 have fl:=Hl.out.below hb
 have ft:=Ht.out.below hb (Nat.le_refl _)
 have HB0:=Lib.hid (bel_on HB.out hb)
 clear hb Hl Ht HB
 have HB:=HB0
 clear HB0
 have Hl:=Lib.hid fl
 clear fl
 have Ht:=Lib.hid ft
 clear ft
 clear Ht
 obtain⟨xl,yl,zl⟩:=(Hl.out.alloc (.cells #[.int .u64 107374182401,.int .u64 7] 32))
 go_wp2_with fail
 refine abs_world (F:=fun W=>Blk W w.heap.size #[.int .i64 5,.int .i64 50,.int .i64 0]∧Ri W .u64 (some ⟨w15.heap.size,0,none⟩) [107374182401,7]∧Below w.heap.size w W) ⟨?_,?_,?_⟩ ?_
 ·exact(Hl.out.alloc _)
 ·exact ri_at16 _ [107374182401,7] _ rfl
 ·exact(HB.out.alloc (by first|exact Nat.le_refl _|(have:=HB.out.size;simp;omega)|(have:=HB.out.size;omega)|(simp;done)|(simp;omega)) _)
 clear Hl HB xl yl zl
 rintro W16 ⟨hl,ht,hb⟩
 have Hl:=Lib.hid hl
 have Ht:=Lib.hid ht
 have HB:=Lib.hid hb
 clear hb hl ht
 refine(KWords_w (some ⟨w15.heap.size,0,none⟩) 2 2 [107374182401,7] 5 50 0 true _ (HT.out.on HB.out) rfl Ht.out (wd16 (by decide)) (by decide) (fun h=>by cases h) (by decide) (by decide) (by decide) (by decide) ok16_8).mono ?_
 rintro r w17 ⟨rfl,hb⟩
 have fl:=Hl.out.below hb
 have ft:=Ht.out.below hb (Nat.le_refl _)
 have HB0:=Lib.hid (bel_on HB.out hb)
 clear hb Hl Ht HB
 have HB:=HB0
 clear HB0
 have Hl:=Lib.hid fl
 clear fl
 have Ht:=Lib.hid ft
 clear ft
 clear Ht
 obtain⟨xl,yl,zl⟩:=(Hl.out.alloc (.cells #[.int .u64 107374182401,.int .u64 15] 32))
 go_wp2_with fail
 refine abs_world (F:=fun W=>Blk W w.heap.size #[.int .i64 5,.int .i64 50,.int .i64 0]∧Ri W .u64 (some ⟨w17.heap.size,0,none⟩) [107374182401,15]∧Below w.heap.size w W) ⟨?_,?_,?_⟩ ?_
 ·exact(Hl.out.alloc _)
 ·exact ri_at16 _ [107374182401,15] _ rfl
 ·exact(HB.out.alloc (by first|exact Nat.le_refl _|(have:=HB.out.size;simp;omega)|(have:=HB.out.size;omega)|(simp;done)|(simp;omega)) _)
 clear Hl HB xl yl zl
 rintro W18 ⟨hl,ht,hb⟩
 have Hl:=Lib.hid hl
 have Ht:=Lib.hid ht
 have HB:=Lib.hid hb
 clear hb hl ht
 refine(KWords_w (some ⟨w17.heap.size,0,none⟩) 2 2 [107374182401,15] 5 50 0 false _ (HT.out.on HB.out) rfl Ht.out (wd16 (by decide)) (by decide) (fun h=>by cases h) (by decide) (by decide) (by decide) (by decide) ok16_9).mono ?_
 rintro r w19 ⟨rfl,hb⟩
 have fl:=Hl.out.below hb
 have ft:=Ht.out.below hb (Nat.le_refl _)
 have HB0:=Lib.hid (bel_on HB.out hb)
 clear hb Hl Ht HB
 have HB:=HB0
 clear HB0
 have Hl:=Lib.hid fl
 clear fl
 have Ht:=Lib.hid ft
 clear ft
 clear Ht
 obtain⟨xl,yl,zl⟩:=(Hl.out.alloc (.cells #[.int .u64 98784247809,.int .u64 4294967304,.int .u64 0,.int .u64 5] 32))
 go_wp2_with fail
 refine abs_world (F:=fun W=>Blk W w.heap.size #[.int .i64 5,.int .i64 50,.int .i64 0]∧Ri W .u64 (some ⟨w19.heap.size,0,none⟩) [98784247809,4294967304,0,5]∧Below w.heap.size w W) ⟨?_,?_,?_⟩ ?_
 ·exact(Hl.out.alloc _)
 ·exact ri_at16 _ [98784247809,4294967304,0,5] _ rfl
 ·exact(HB.out.alloc (by first|exact Nat.le_refl _|(have:=HB.out.size;simp;omega)|(have:=HB.out.size;omega)|(simp;done)|(simp;omega)) _)
 clear Hl HB xl yl zl
 rintro W20 ⟨hl,ht,hb⟩
 have Hl:=Lib.hid hl
 have Ht:=Lib.hid ht
 have HB:=Lib.hid hb
 clear hb hl ht
 refine(KWords_w (some ⟨w19.heap.size,0,none⟩) 4 4 [98784247809,4294967304,0,5] 5 50 0 true _ (HT.out.on HB.out) rfl Ht.out (wd16 (by decide)) (by decide) (fun h=>by cases h) (by decide) (by decide) (by decide) (by decide) ok16_10).mono ?_
 rintro r w21 ⟨rfl,hb⟩
 have fl:=Hl.out.below hb
 have ft:=Ht.out.below hb (Nat.le_refl _)
 have HB0:=Lib.hid (bel_on HB.out hb)
 clear hb Hl Ht HB
 have HB:=HB0
 clear HB0
 have Hl:=Lib.hid fl
 clear fl
 have Ht:=Lib.hid ft
 clear ft
 clear Ht
 obtain⟨xl,yl,zl⟩:=(Hl.out.alloc (.cells #[.int .u64 98784247809,.int .u64 4294967304,.int .u64 0,.int .u64 0] 32))
 go_wp2_with fail
 refine abs_world (F:=fun W=>Blk W w.heap.size #[.int .i64 5,.int .i64 50,.int .i64 0]∧Ri W .u64 (some ⟨w21.heap.size,0,none⟩) [98784247809,4294967304,0,0]∧Below w.heap.size w W) ⟨?_,?_,?_⟩ ?_
 ·exact(Hl.out.alloc _)
 ·exact ri_at16 _ [98784247809,4294967304,0,0] _ rfl
 ·exact(HB.out.alloc (by first|exact Nat.le_refl _|(have:=HB.out.size;simp;omega)|(have:=HB.out.size;omega)|(simp;done)|(simp;omega)) _)
 clear Hl HB xl yl zl
 rintro W22 ⟨hl,ht,hb⟩
 have Hl:=Lib.hid hl
 have Ht:=Lib.hid ht
 have HB:=Lib.hid hb
 clear hb hl ht
 refine(KWords_w (some ⟨w21.heap.size,0,none⟩) 4 4 [98784247809,4294967304,0,0] 5 50 0 false _ (HT.out.on HB.out) rfl Ht.out (wd16 (by decide)) (by decide) (fun h=>by cases h) (by decide) (by decide) (by decide) (by decide) ok16_11).mono ?_
 rintro r w23 ⟨rfl,hb⟩
 have fl:=Hl.out.below hb
 have ft:=Ht.out.below hb (Nat.le_refl _)
 have HB0:=Lib.hid (bel_on HB.out hb)
 clear hb Hl Ht HB
 have HB:=HB0
 clear HB0
 have Hl:=Lib.hid fl
 clear fl
 have Ht:=Lib.hid ft
 clear ft
 clear Ht
 go_wp2_with fail
 refine abs_world (F:=fun W=>Blk W w.heap.size #[.int .i64 5,.int .i64 50,.int .i64 0]∧Ri W .u64 (some ⟨w23.heap.size,0,none⟩) [4294967296,5]∧Below w.heap.size w W) ⟨?_,?_,?_⟩ ?_
 ·exact(Hl.out.alloc _)
 ·exact ri_at16 _ [4294967296,5] _ rfl
 ·exact(HB.out.alloc (by first|exact Nat.le_refl _|(have:=HB.out.size;simp;omega)|(have:=HB.out.size;omega)|(simp;done)|(simp;omega)) _)
 clear Hl HB
 rintro W24 ⟨hl,ht,hb⟩
 have Hl:=Lib.hid hl
 have Ht:=Lib.hid ht
 have HB:=Lib.hid hb
 clear hb hl ht
 refine(KWords_w (some ⟨w23.heap.size,0,none⟩) 2 2 [4294967296,5] 5 0 0 false _ (HT.out.on HB.out) rfl Ht.out (wd16 (by decide)) (by decide) (fun h=>by cases h) (by decide) (by decide) (by decide) (by decide) ok16_12).mono ?_
 rintro r w25 ⟨rfl,hb⟩
 have fl:=Hl.out.below hb
 have ft:=Ht.out.below hb (Nat.le_refl _)
 have HB0:=Lib.hid (bel_on HB.out hb)
 clear hb Hl Ht HB
 have HB:=HB0
 clear HB0
 have Hl:=Lib.hid fl
 clear fl
 have Ht:=Lib.hid ft
 clear ft
 clear Ht
 go_wp2
 go_ret
 exact⟨rfl,HB.out⟩
end
end Go.Proofs.YtclpapddejgpnaaDoor
