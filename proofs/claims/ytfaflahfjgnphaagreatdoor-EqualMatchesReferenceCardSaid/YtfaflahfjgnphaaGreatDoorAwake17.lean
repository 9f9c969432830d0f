/- The fixed examples of layer 17: 'awake' is true. -/
import Derived.Test.YtfaflahfjgnphaaGreatDoorMg42
namespace Go.Proofs.YtfaflahfjgnphaaGreatDoor
open Go.ChangeShapes Go.WideShapes Go.ChangeAt Go.RowKit
set_option linter.unusedVariables false
set_option linter.unusedSimpArgs false
set_option maxRecDepth 100000
section
theorem ri_at17 (w:World)(l:List Int)(q:Nat)(hq:q=w.heap.size){U:TypeId}:Ri (w.alloc (.cells (l.map (Value.int .u64)).toArray U)) .u64 (some ⟨q,0,none⟩) l:=by
 subst hq
 exact Ri.lit w .u64 l U
theorem holds_at17 (w:World)(l:List Int)(n:Nat)(hn:n=l.length)(hm:n≤1000)(q:Nat)(hq:q=w.heap.size){U:TypeId}:Holds (w.alloc (.cells (l.map (Value.int .u64)).toArray U)) (.slice (some ⟨q,0,none⟩) n n) l:=by
 subst hn hq
 exact⟨_,_,rfl,Ri.lit w .u64 l U,(fun h=>by cases h),Nat.le_refl _,by unfold maxLen;omega⟩
theorem sg_one17 (w:World)(l:List Int)(n:Nat)(hn:n=l.length)(hm:n≤1000)(p q:Nat)(hp:p=w.heap.size)(hq:q=w.heap.size+1){U T:TypeId}:Sg ((w.alloc (.cells (l.map (Value.int .u64)).toArray U)).alloc (.cells #[.slice (some ⟨p,0,none⟩) n n] T)) (some ⟨q,0,none⟩) [l]:=by
 subst hp hq
 have h:=Sg.lit (w:=w.alloc (.cells (l.map (Value.int .u64)).toArray U)) [.slice (some ⟨w.heap.size,0,none⟩) n n] [l] T (fun j hj=>by
  obtain rfl:j=0:=by simp at hj;omega
  exact⟨_,rfl,holds_at17 w l n hn hm _ rfl⟩)
 simpa using h
theorem sg_two17 (w:World)(l m:List Int)(n k:Nat)(hn:n=l.length)(hk:k=m.length)(hm:n≤1000)(hm2:k≤1000)(p p2 q:Nat)(hp:p=w.heap.size)(hp2:p2=w.heap.size+1)(hq:q=w.heap.size+1+1){U U2 T:TypeId}:Sg (((w.alloc (.cells (l.map (Value.int .u64)).toArray U)).alloc (.cells (m.map (Value.int .u64)).toArray U2)).alloc (.cells #[.slice (some ⟨p,0,none⟩) n n,.slice (some ⟨p2,0,none⟩) k k] T)) (some ⟨q,0,none⟩) [l,m]:=by
 subst hp hp2 hq
 have h:=Sg.lit (w:=(w.alloc (.cells (l.map (Value.int .u64)).toArray U)).alloc (.cells (m.map (Value.int .u64)).toArray U2)) [.slice (some ⟨w.heap.size,0,none⟩) n n,.slice (some ⟨w.heap.size+1,0,none⟩) k k] [l,m] T (fun j hj=>by
  have:j=0∨j=1:=by simp at hj;omega
  rcases this with rfl|rfl
  ·exact⟨_,rfl,(holds_at17 w l n hn hm _ rfl).below ((Below.refl _ _).alloc (Nat.le_refl _) _) (Nat.le_refl _)⟩
  ·exact⟨_,rfl,holds_at17 _ m k hk hm2 _ (by simp)⟩)
 simpa using h
theorem wd17 {ls:List (List Int)}(h:∀l∈ls,∀z∈l,0≤z∧z<18446744073709551616):Wd2 ls:=h
theorem fw17 {ls:List (List Int)}(h:∀l∈ls,l.length≤20000000)(j:Nat):(seg ls j).length≤20000000:=by
 by_cases hj:j<ls.length
 ·exact h _ (seg_mem hj)
 ·rw [seg_out (by omega)];simp
theorem st_ne17 {n m:Int}{d d':List Int}{ks ks':List Nd}{k k' e e':Int}(h:k≠k'):Nd.mk k e n d ks≠Nd.mk k' e' m d' ks':=fun h2=>by injection h2 with h3;exact h h3
theorem ok17_1:eqM [[4294967292]] [[4294967296,0]] 5 50=(true,0):=by
 rw [eqQ_of (x:=.mk 1 0 0 [] []) (y:=.mk 1 0 0 [] []) (e:=0) (f:=0) (by kernel_rfl) (by kernel_rfl)]
 unfold eqQ
 rw [if_neg (by decide),if_neg (by decide),eqN_yes rfl]
theorem ok17_2:eqM [[4294967292]] [[0]] 5 50=(false,0):=by
 rw [eqQ_of (x:=.mk 1 0 0 [] []) (y:=nd0) (e:=0) (f:=0) (by kernel_rfl) (by kernel_rfl)]
 unfold eqQ
 rw [if_neg (by decide),if_neg (by decide),eqN_no (show Nd.mk 1 0 0 [] []≠nd0 from st_ne17 (by decide))]
theorem ok17_3:eqM [[0]] [[3]] 5 50=(false,6):=by
 rw [eqQ_of (x:=nd0) (y:=nd0) (e:=0) (f:=6) (by kernel_rfl) (by kernel_rfl)]
 unfold eqQ
 rw [if_neg (by decide),if_pos (by decide)]
theorem ok17_4:eqM [[7]] [[3]] 5 50=(false,4):=by
 rw [eqQ_of (x:=nd0) (y:=nd0) (e:=4) (f:=6) (by kernel_rfl) (by kernel_rfl)]
 unfold eqQ
 rw [if_pos (by decide)]
theorem ok17_5:eqM [[4294967298],[4294967296,5]] [[8589934596,9,5,0]] 5 50=(true,0):=by
 rw [eqQ_of (x:=.mk 1 0 0 [5,0,0,0,0,0,0,0] []) (y:=.mk 1 0 0 [5,0,0,0,0,0,0,0] []) (e:=0) (f:=0) (by kernel_rfl) (by kernel_rfl)]
 unfold eqQ
 rw [if_neg (by decide),if_neg (by decide),eqN_yes rfl]
attribute [local irreducible] msgV eqM dataE
set_option maxHeartbeats 4000000 in
set_option maxRecDepth 100000 in
theorem awake17_any (w:World)(hT:TabOK w):Calls Tryz.prog 5 #[] w fun e w'=>e=.returned (.bool true)∧Below w.heap.size w w':=by
 have HT:=Lib.hid hT
 clear hT
 go_enter Tryz.func5,Tryz.ntmps5
 go_wp2_with fail
 refine abs_world (F:=fun W=>Blk W w.heap.size #[.int .i64 5,.int .i64 50,.int .i64 0]∧Sg W (some ⟨w.heap.size+1+1,0,none⟩) [[4294967292]]∧Sg W (some ⟨w.heap.size+1+1+1+1,0,none⟩) [[4294967296,0]]∧Sg W (some ⟨w.heap.size+1+1+1+1+1+1,0,none⟩) [[0]]∧Below w.heap.size w W) ⟨?_,?_,?_,?_,?_⟩ ?_
 ·exact((((((Blk.fresh _ _ _).alloc _).alloc _).alloc _).alloc _).alloc _).alloc _
 ·exact(((((sg_one17 _ [4294967292] 1 rfl (by decide) _ _ (by simp) (by simp)).alloc _).alloc _).alloc _).alloc _)
 ·exact(((sg_one17 _ [4294967296,0] 2 rfl (by decide) _ _ (by simp) (by simp)).alloc _).alloc _)
 ·exact(sg_one17 _ [0] 1 rfl (by decide) _ _ (by simp) (by simp))
 ·exact((((((((Below.refl w.heap.size w).alloc (by first|exact Nat.le_refl _|(simp;done)|(simp;omega)) _).alloc (by first|exact Nat.le_refl _|(simp;done)|(simp;omega)) _).alloc (by first|exact Nat.le_refl _|(simp;done)|(simp;omega)) _).alloc (by first|exact Nat.le_refl _|(simp;done)|(simp;omega)) _).alloc (by first|exact Nat.le_refl _|(simp;done)|(simp;omega)) _).alloc (by first|exact Nat.le_refl _|(simp;done)|(simp;omega)) _).alloc (by first|exact Nat.le_refl _|(simp;done)|(simp;omega)) _)
 rintro W1 ⟨hl,ha,hz,hn,hb⟩
 have Hl:=Lib.hid hl
 have Ha:=Lib.hid ha
 have Hz:=Lib.hid hz
 have Hn:=Lib.hid hn
 have HB:=Lib.hid hb
 clear hb hl ha hz hn
 refine(EMessages_w (some ⟨w.heap.size+1+1,0,none⟩) 1 1 (some ⟨w.heap.size+1+1+1+1,0,none⟩) 1 1 [[4294967292]] [[4294967296,0]] 5 50 0 _ _ _ (HT.out.on HB.out) rfl rfl Ha.out Hz.out (wd17 (by decide)) (wd17 (by decide)) (by decide) (by decide) (fw17 (by decide)) (fw17 (by decide)) (by decide) (by decide) (by decide) (by decide) (by decide) (by decide) ok17_1).mono ?_
 rintro r w2 ⟨rfl,hb⟩
 have fl:=Hl.out.below hb
 have fa:=Ha.out.below hb (Nat.le_refl _)
 have fz:=Hz.out.below hb (Nat.le_refl _)
 have fn:=Hn.out.below hb (Nat.le_refl _)
 have HB0:=Lib.hid (bel_on HB.out hb)
 clear hb Hl Ha Hz Hn HB
 have HB:=HB0
 clear HB0
 have Hl:=Lib.hid fl
 clear fl
 have Ha:=Lib.hid fa
 clear fa
 have Hz:=Lib.hid fz
 clear fz
 have Hn:=Lib.hid fn
 clear fn
 obtain⟨xl,yl,zl⟩:=Hl.out
 go_wp2_with fail
 clear xl yl zl
 refine(EMessages_w (some ⟨w.heap.size+1+1,0,none⟩) 1 1 (some ⟨w.heap.size+1+1+1+1+1+1,0,none⟩) 1 1 [[4294967292]] [[0]] 5 50 0 _ _ _ (HT.out.on HB.out) rfl rfl Ha.out Hn.out (wd17 (by decide)) (wd17 (by decide)) (by decide) (by decide) (fw17 (by decide)) (fw17 (by decide)) (by decide) (by decide) (by decide) (by decide) (by decide) (by decide) ok17_2).mono ?_
 rintro r w3 ⟨rfl,hb⟩
 have fl:=Hl.out.below hb
 have fa:=Ha.out.below hb (Nat.le_refl _)
 have fz:=Hz.out.below hb (Nat.le_refl _)
 have fn:=Hn.out.below hb (Nat.le_refl _)
 have HB0:=Lib.hid (bel_on HB.out hb)
 clear hb Hl Ha Hz Hn HB
 have HB:=HB0
 clear HB0
 have Hl:=Lib.hid fl
 clear fl
 have Ha:=Lib.hid fa
 clear fa
 have Hz:=Lib.hid fz
 clear fz
 have Hn:=Lib.hid fn
 clear fn
 obtain⟨xl,yl,zl⟩:=((Hl.out.alloc (.cells #[.int .u64 3] 39)).alloc (.cells #[.slice (some ⟨w3.heap.size,0,none⟩) 1 1] 25))
 go_wp2_with fail
 refine abs_world (F:=fun W=>Blk W w.heap.size #[.int .i64 5,.int .i64 50,.int .i64 0]∧Sg W (some ⟨w.heap.size+1+1,0,none⟩) [[4294967292]]∧Sg W (some ⟨w.heap.size+1+1+1+1,0,none⟩) [[4294967296,0]]∧Sg W (some ⟨w.heap.size+1+1+1+1+1+1,0,none⟩) [[0]]∧Sg W (some ⟨w3.heap.size+1,0,none⟩) [[3]]∧Below w.heap.size w W) ⟨?_,?_,?_,?_,?_,?_⟩ ?_
 ·exact((Hl.out.alloc _).alloc _)
 ·exact((Ha.out.alloc _).alloc _)
 ·exact((Hz.out.alloc _).alloc _)
 ·exact((Hn.out.alloc _).alloc _)
 ·exact(sg_one17 _ [3] 1 rfl (by decide) _ _ (by simp) (by simp))
 ·exact((HB.out.alloc (by first|exact Nat.le_refl _|(have:=HB.out.size;simp;omega)|(have:=HB.out.size;omega)|(simp;done)|(simp;omega)) _).alloc (by first|exact Nat.le_refl _|(have:=HB.out.size;simp;omega)|(have:=HB.out.size;omega)|(simp;done)|(simp;omega)) _)
 clear Hl Ha Hz Hn HB xl yl zl
 rintro W4 ⟨hl,ha,hz,hn,ht,hb⟩
 have Hl:=Lib.hid hl
 have Ha:=Lib.hid ha
 have Hz:=Lib.hid hz
 have Hn:=Lib.hid hn
 have Ht:=Lib.hid ht
 have HB:=Lib.hid hb
 clear hb hl ha hz hn ht
 refine(EMessages_w (some ⟨w.heap.size+1+1+1+1+1+1,0,none⟩) 1 1 (some ⟨w3.heap.size+1,0,none⟩) 1 1 [[0]] [[3]] 5 50 0 _ _ _ (HT.out.on HB.out) rfl rfl Hn.out Ht.out (wd17 (by decide)) (wd17 (by decide)) (by decide) (by decide) (fw17 (by decide)) (fw17 (by decide)) (by decide) (by decide) (by decide) (by decide) (by decide) (by decide) ok17_3).mono ?_
 rintro r w5 ⟨rfl,hb⟩
 have fl:=Hl.out.below hb
 have fa:=Ha.out.below hb (Nat.le_refl _)
 have fz:=Hz.out.below hb (Nat.le_refl _)
 have fn:=Hn.out.below hb (Nat.le_refl _)
 have ft:=Ht.out.below hb (Nat.le_refl _)
 have HB0:=Lib.hid (bel_on HB.out hb)
 clear hb Hl Ha Hz Hn Ht HB
 have HB:=HB0
 clear HB0
 have Hl:=Lib.hid fl
 clear fl
 have Ha:=Lib.hid fa
 clear fa
 have Hz:=Lib.hid fz
 clear fz
 have Hn:=Lib.hid fn
 clear fn
 have Ht:=Lib.hid ft
 clear ft
 clear Ha
 clear Hz
 clear Hn
 clear Ht
 obtain⟨xl,yl,zl⟩:=((((Hl.out.alloc (.cells #[.int .u64 7] 39)).alloc (.cells #[.slice (some ⟨w5.heap.size,0,none⟩) 1 1] 25)).alloc (.cells #[.int .u64 3] 39)).alloc (.cells #[.slice (some ⟨w5.heap.size+1+1,0,none⟩) 1 1] 25))
 go_wp2_with fail
 refine abs_world (F:=fun W=>Blk W w.heap.size #[.int .i64 5,.int .i64 50,.int .i64 0]∧Sg W (some ⟨w5.heap.size+1,0,none⟩) [[7]]∧Sg W (some ⟨w5.heap.size+1+1+1,0,none⟩) [[3]]∧Below w.heap.size w W) ⟨?_,?_,?_,?_⟩ ?_
 ·exact((((Hl.out.alloc _).alloc _).alloc _).alloc _)
 ·exact(((sg_one17 _ [7] 1 rfl (by decide) _ _ (by simp) (by simp)).alloc _).alloc _)
 ·exact(sg_one17 _ [3] 1 rfl (by decide) _ _ (by simp) (by simp))
 ·exact((((HB.out.alloc (by first|exact Nat.le_refl _|(have:=HB.out.size;simp;omega)|(have:=HB.out.size;omega)|(simp;done)|(simp;omega)) _).alloc (by first|exact Nat.le_refl _|(have:=HB.out.size;simp;omega)|(have:=HB.out.size;omega)|(simp;done)|(simp;omega)) _).alloc (by first|exact Nat.le_refl _|(have:=HB.out.size;simp;omega)|(have:=HB.out.size;omega)|(simp;done)|(simp;omega)) _).alloc (by first|exact Nat.le_refl _|(have:=HB.out.size;simp;omega)|(have:=HB.out.size;omega)|(simp;done)|(simp;omega)) _)
 clear Hl HB xl yl zl
 rintro W6 ⟨hl,hk,ht,hb⟩
 have Hl:=Lib.hid hl
 have Hk:=Lib.hid hk
 have Ht:=Lib.hid ht
 have HB:=Lib.hid hb
 clear hb hl hk ht
 refine(EMessages_w (some ⟨w5.heap.size+1,0,none⟩) 1 1 (some ⟨w5.heap.size+1+1+1,0,none⟩) 1 1 [[7]] [[3]] 5 50 0 _ _ _ (HT.out.on HB.out) rfl rfl Hk.out Ht.out (wd17 (by decide)) (wd17 (by decide)) (by decide) (by decide) (fw17 (by decide)) (fw17 (by decide)) (by decide) (by decide) (by decide) (by decide) (by decide) (by decide) ok17_4).mono ?_
 rintro r w7 ⟨rfl,hb⟩
 have fl:=Hl.out.below hb
 have fk:=Hk.out.below hb (Nat.le_refl _)
 have ft:=Ht.out.below hb (Nat.le_refl _)
 have HB0:=Lib.hid (bel_on HB.out hb)
 clear hb Hl Hk Ht HB
 have HB:=HB0
 clear HB0
 have Hl:=Lib.hid fl
 clear fl
 have Hk:=Lib.hid fk
 clear fk
 have Ht:=Lib.hid ft
 clear ft
 clear Hk
 clear Ht
 obtain⟨xl,yl,zl⟩:=(((((Hl.out.alloc (.cells #[.int .u64 4294967298] 39)).alloc (.cells #[.int .u64 4294967296,.int .u64 5] 39)).alloc (.cells #[.slice (some ⟨w7.heap.size,0,none⟩) 1 1,.slice (some ⟨w7.heap.size+1,0,none⟩) 2 2] 25)).alloc (.cells #[.int .u64 8589934596,.int .u64 9,.int .u64 5,.int .u64 0] 39)).alloc (.cells #[.slice (some ⟨w7.heap.size+1+1+1,0,none⟩) 4 4] 25))
 go_wp2_with fail
 refine abs_world (F:=fun W=>Blk W w.heap.size #[.int .i64 5,.int .i64 50,.int .i64 0]∧Sg W (some ⟨w7.heap.size+1+1,0,none⟩) [[4294967298],[4294967296,5]]∧Sg W (some ⟨w7.heap.size+1+1+1+1,0,none⟩) [[8589934596,9,5,0]]∧Below w.heap.size w W) ⟨?_,?_,?_,?_⟩ ?_
 ·exact(((((Hl.out.alloc _).alloc _).alloc _).alloc _).alloc _)
 ·exact((sg_two17 _ [4294967298] [4294967296,5] 1 2 rfl rfl (by decide) (by decide) _ _ _ (by simp) (by simp) (by simp)).alloc _).alloc _
 ·exact(sg_one17 _ [8589934596,9,5,0] 4 rfl (by decide) _ _ (by simp) (by simp))
 ·exact(((((HB.out.alloc (by first|exact Nat.le_refl _|(have:=HB.out.size;simp;omega)|(have:=HB.out.size;omega)|(simp;done)|(simp;omega)) _).alloc (by first|exact Nat.le_refl _|(have:=HB.out.size;simp;omega)|(have:=HB.out.size;omega)|(simp;done)|(simp;omega)) _).alloc (by first|exact Nat.le_refl _|(have:=HB.out.size;simp;omega)|(have:=HB.out.size;omega)|(simp;done)|(simp;omega)) _).alloc (by first|exact Nat.le_refl _|(have:=HB.out.size;simp;omega)|(have:=HB.out.size;omega)|(simp;done)|(simp;omega)) _).alloc (by first|exact Nat.le_refl _|(have:=HB.out.size;simp;omega)|(have:=HB.out.size;omega)|(simp;done)|(simp;omega)) _)
 clear Hl HB xl yl zl
 rintro W8 ⟨hl,hf,hg,hb⟩
 have Hl:=Lib.hid hl
 have Hf:=Lib.hid hf
 have Hg:=Lib.hid hg
 have HB:=Lib.hid hb
 clear hb hl hf hg
 refine(EMessages_w (some ⟨w7.heap.size+1+1,0,none⟩) 2 2 (some ⟨w7.heap.size+1+1+1+1,0,none⟩) 1 1 [[4294967298],[4294967296,5]] [[8589934596,9,5,0]] 5 50 0 _ _ _ (HT.out.on HB.out) rfl rfl Hf.out Hg.out (wd17 (by decide)) (wd17 (by decide)) (by decide) (by decide) (fw17 (by decide)) (fw17 (by decide)) (by decide) (by decide) (by decide) (by decide) (by decide) (by decide) ok17_5).mono ?_
 rintro r w9 ⟨rfl,hb⟩
 have fl:=Hl.out.below hb
 have ff:=Hf.out.below hb (Nat.le_refl _)
 have fg:=Hg.out.below hb (Nat.le_refl _)
 have HB0:=Lib.hid (bel_on HB.out hb)
 clear hb Hl Hf Hg HB
 have HB:=HB0
 clear HB0
 have Hl:=Lib.hid fl
 clear fl
 have Hf:=Lib.hid ff
 clear ff
 have Hg:=Lib.hid fg
 clear fg
 clear Hl
 clear Hf
 clear Hg
 go_wp2_with fail
 refine abs_world (F:=fun W=>Ri W .u64 (some ⟨w9.heap.size,0,none⟩) [5,0]∧Ri W .u64 (some ⟨w9.heap.size+1,0,none⟩) [5]∧Below w.heap.size w W) ⟨?_,?_,?_⟩ ?_
 ·exact(ri_at17 _ [5,0] _ (by simp)).alloc _
 ·exact ri_at17 _ [5] _ (by simp)
 ·exact((HB.out.alloc (by first|exact Nat.le_refl _|(have:=HB.out.size;simp;omega)|(have:=HB.out.size;omega)|(simp;done)|(simp;omega)) _).alloc (by first|exact Nat.le_refl _|(have:=HB.out.size;simp;omega)|(have:=HB.out.size;omega)|(simp;done)|(simp;omega)) _)
 clear HB
 rintro W10 ⟨ht,hu,hb⟩
 have Ht:=Lib.hid ht
 have Hu:=Lib.hid hu
 have HB:=Lib.hid hb
 clear hb ht hu
 refine(EData_w (some ⟨w9.heap.size,0,none⟩) 2 2 (some ⟨w9.heap.size+1,0,none⟩) 1 1 [5,0] [5] true _ (HT.out.on HB.out) rfl rfl Ht.out Hu.out (by decide) (by decide) (by decide) (by decide) (fun h=>by cases h) (fun h=>by cases h) (by decide) (by decide) (by kernel_rfl)).mono ?_
 rintro r w11 ⟨rfl,hb⟩
 have ft:=Ht.out.below hb (Nat.le_refl _)
 have fu:=Hu.out.below hb (Nat.le_refl _)
 have HB0:=Lib.hid (bel_on HB.out hb)
 clear hb Ht Hu HB
 have HB:=HB0
 clear HB0
 have Ht:=Lib.hid ft
 clear ft
 have Hu:=Lib.hid fu
 clear fu
 clear Ht
 clear Hu
 go_wp2_with fail
 refine abs_world (F:=fun W=>Ri W .u64 (some ⟨w11.heap.size,0,none⟩) [5,1]∧Ri W .u64 (some ⟨w11.heap.size+1,0,none⟩) [5]∧Below w.heap.size w W) ⟨?_,?_,?_⟩ ?_
 ·exact(ri_at17 _ [5,1] _ (by simp)).alloc _
 ·exact ri_at17 _ [5] _ (by simp)
 ·exact((HB.out.alloc (by first|exact Nat.le_refl _|(have:=HB.out.size;simp;omega)|(have:=HB.out.size;omega)|(simp;done)|(simp;omega)) _).alloc (by first|exact Nat.le_refl _|(have:=HB.out.size;simp;omega)|(have:=HB.out.size;omega)|(simp;done)|(simp;omega)) _)
 clear HB
 rintro W12 ⟨ht,hu,hb⟩
 have Ht:=Lib.hid ht
 have Hu:=Lib.hid hu
 have HB:=Lib.hid hb
 clear hb ht hu
 refine(EData_w (some ⟨w11.heap.size,0,none⟩) 2 2 (some ⟨w11.heap.size+1,0,none⟩) 1 1 [5,1] [5] false _ (HT.out.on HB.out) rfl rfl Ht.out Hu.out (by decide) (by decide) (by decide) (by decide) (fun h=>by cases h) (fun h=>by cases h) (by decide) (by decide) (by kernel_rfl)).mono ?_
 rintro r w13 ⟨rfl,hb⟩
 have ft:=Ht.out.below hb (Nat.le_refl _)
 have fu:=Hu.out.below hb (Nat.le_refl _)
 have HB0:=Lib.hid (bel_on HB.out hb)
 clear hb Ht Hu HB
 have HB:=HB0
 clear HB0
 have Ht:=Lib.hid ft
 clear ft
 have Hu:=Lib.hid fu
 clear fu
 clear Ht
 clear Hu
 go_wp2_with fail
 refine abs_world (F:=fun W=>Ri W .u64 (some ⟨w13.heap.size,0,none⟩) [0]∧Below w.heap.size w W) ⟨?_,?_⟩ ?_
 ·exact ri_at17 _ [0] _ (by simp)
 ·exact(HB.out.alloc (by first|exact Nat.le_refl _|(have:=HB.out.size;simp;omega)|(have:=HB.out.size;omega)|(simp;done)|(simp;omega)) _)
 clear HB
 rintro W14 ⟨hu,hb⟩
 have Hu:=Lib.hid hu
 have HB:=Lib.hid hb
 clear hb hu
 refine(EData_w none 0 0 (some ⟨w13.heap.size,0,none⟩) 1 1 [] [0] true _ (HT.out.on HB.out) rfl rfl (Ri.nil _ _ _) Hu.out (by decide) (by decide) (by decide) (by decide) (fun _=>rfl) (fun h=>by cases h) (by decide) (by decide) (by kernel_rfl)).mono ?_
 rintro r w15 ⟨rfl,hb⟩
 have fu:=Hu.out.below hb (Nat.le_refl _)
 have HB0:=Lib.hid (bel_on HB.out hb)
 clear hb Hu HB
 have HB:=HB0
 clear HB0
 have Hu:=Lib.hid fu
 clear fu
 clear Hu
 go_wp2
 go_ret
 exact⟨rfl,HB.out⟩
end
end Go.Proofs.YtfaflahfjgnphaaGreatDoor
