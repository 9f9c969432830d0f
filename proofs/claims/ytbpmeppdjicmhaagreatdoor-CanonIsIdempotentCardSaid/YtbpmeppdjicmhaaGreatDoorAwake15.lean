/- The fixed examples of layer 15: 'awake' is true. -/
import Derived.Test.YtbpmeppdjicmhaaGreatDoorMg45
namespace Go.Proofs.YtbpmeppdjicmhaaGreatDoor
open Go.ChangeShapes Go.WideShapes Go.ChangeAt Go.RowKit
set_option linter.unusedVariables false
set_option linter.unusedSimpArgs false
set_option maxRecDepth 100000
section
def d15:List (List Int):=[[8589934596,99,5,0]]
def f15:List (List Int):=[[4294967298],[4294967296,5]]
def g15:List (List Int):=[[3]]
def z15:List (List Int):=[[]]
theorem holds_lit15 (w:World)(l:List Int)(n:Nat)(hn:n=l.length)(hm:n≤1000)(q:Nat)(hq:q=w.heap.size){U:TypeId}:Holds (w.alloc (.cells (l.map (Value.int .u64)).toArray U)) (.slice (some ⟨q,0,none⟩) n n) l:=by
 subst hn hq
 exact⟨_,_,rfl,Ri.lit w .u64 l U,(fun h=>by cases h),Nat.le_refl _,by unfold maxLen;omega⟩
theorem sg_one15 (w:World)(l:List Int)(n:Nat)(hn:n=l.length)(hm:n≤1000)(q:Nat)(hq:q=w.heap.size+1){U T:TypeId}:Sg ((w.alloc (.cells (l.map (Value.int .u64)).toArray U)).alloc (.cells #[.slice (some ⟨w.heap.size,0,none⟩) n n] T)) (some ⟨q,0,none⟩) [l]:=by
 subst hq
 have h:=Sg.lit (w:=w.alloc (.cells (l.map (Value.int .u64)).toArray U)) [.slice (some ⟨w.heap.size,0,none⟩) n n] [l] T (fun j hj=>by
  obtain rfl:j=0:=by simp at hj;omega
  exact⟨_,rfl,holds_lit15 w l n hn hm _ rfl⟩)
 simpa using h
theorem sg_g15 (w:World){U T:TypeId}:Sg ((w.alloc (.cells #[.int .u64 3] U)).alloc (.cells #[.slice (some ⟨w.heap.size,0,none⟩) 1 1] T)) (some ⟨w.heap.size+1,0,none⟩) g15:=sg_one15 w [3] 1 rfl (by decide) _ rfl
theorem sg_z15 (w:World){U T:TypeId}:Sg ((w.alloc (.cells #[] U)).alloc (.cells #[.slice (some ⟨w.heap.size,0,none⟩) 0 0] T)) (some ⟨w.heap.size+1,0,none⟩) z15:=sg_one15 w [] 0 rfl (by decide) _ rfl
theorem wd15 {ls:List (List Int)}(h:∀l∈ls,∀z∈l,0≤z∧z<18446744073709551616):Wd2 ls:=h
theorem fw15 {ls:List (List Int)}(h:∀l∈ls,l.length≤20000000)(j:Nat):(seg ls j).length≤20000000:=by
 by_cases hj:j<ls.length
 ·exact h _ (seg_mem hj)
 ·rw [seg_out (by omega)];simp
theorem ok_d15:Wd2 d15∧d15.length≤40∧(∀j,(seg d15 j).length≤20000000)∧(msgV d15 5 50).2=0∧canW d15 5 50=[4294967296,5]:=⟨wd15 (by decide),by decide,fw15 (by decide),by kernel_rfl,by kernel_rfl⟩
theorem ok_f15:Wd2 f15∧f15.length≤40∧(∀j,(seg f15 j).length≤20000000)∧(msgV f15 5 50).2=0∧canW f15 5 50=[4294967296,5]:=⟨wd15 (by decide),by decide,fw15 (by decide),by kernel_rfl,by kernel_rfl⟩
theorem ok_g15:Wd2 g15∧g15.length≤40∧(∀j,(seg g15 j).length≤20000000)∧(msgV g15 5 50).2=6∧canW g15 5 50=[]:=⟨wd15 (by decide),by decide,fw15 (by decide),by kernel_rfl,by kernel_rfl⟩
theorem ok_z15:Wd2 z15∧z15.length≤40∧(∀j,(seg z15 j).length≤20000000)∧(msgV z15 5 50).2=0∧canW z15 5 50=[0]:=⟨wd15 (by decide),by decide,fw15 (by decide),by kernel_rfl,by kernel_rfl⟩
theorem sg_f15:(if (msgV f15 5 50).2=0 then [writeF (msgV f15 5 50).1] else [])=[[4294967296,5]]:=by kernel_rfl
theorem m15_new (w:World):Blk ((((((w.alloc (.cells #[.int .i64 5,.int .i64 50,.int .i64 0] 24)).alloc (.cells #[.int .u64 8589934596,.int .u64 99,.int .u64 5,.int .u64 0] 48)).alloc (.cells #[.slice (some ⟨w.heap.size+1,0,none⟩) 4 4] 27)).alloc (.cells #[.int .u64 4294967298] 48)).alloc (.cells #[.int .u64 4294967296,.int .u64 5] 48)).alloc (.cells #[.slice (some ⟨w.heap.size+1+1+1,0,none⟩) 1 1,.slice (some ⟨w.heap.size+1+1+1+1,0,none⟩) 2 2] 27)) w.heap.size #[.int .i64 5,.int .i64 50,.int .i64 0]∧Sg ((((((w.alloc (.cells #[.int .i64 5,.int .i64 50,.int .i64 0] 24)).alloc (.cells #[.int .u64 8589934596,.int .u64 99,.int .u64 5,.int .u64 0] 48)).alloc (.cells #[.slice (some ⟨w.heap.size+1,0,none⟩) 4 4] 27)).alloc (.cells #[.int .u64 4294967298] 48)).alloc (.cells #[.int .u64 4294967296,.int .u64 5] 48)).alloc (.cells #[.slice (some ⟨w.heap.size+1+1+1,0,none⟩) 1 1,.slice (some ⟨w.heap.size+1+1+1+1,0,none⟩) 2 2] 27)) (some ⟨w.heap.size+1+1,0,none⟩) d15∧Sg ((((((w.alloc (.cells #[.int .i64 5,.int .i64 50,.int .i64 0] 24)).alloc (.cells #[.int .u64 8589934596,.int .u64 99,.int .u64 5,.int .u64 0] 48)).alloc (.cells #[.slice (some ⟨w.heap.size+1,0,none⟩) 4 4] 27)).alloc (.cells #[.int .u64 4294967298] 48)).alloc (.cells #[.int .u64 4294967296,.int .u64 5] 48)).alloc (.cells #[.slice (some ⟨w.heap.size+1+1+1,0,none⟩) 1 1,.slice (some ⟨w.heap.size+1+1+1+1,0,none⟩) 2 2] 27)) (some ⟨w.heap.size+1+1+1+1+1,0,none⟩) f15∧Below w.heap.size w ((((((w.alloc (.cells #[.int .i64 5,.int .i64 50,.int .i64 0] 24)).alloc (.cells #[.int .u64 8589934596,.int .u64 99,.int .u64 5,.int .u64 0] 48)).alloc (.cells #[.slice (some ⟨w.heap.size+1,0,none⟩) 4 4] 27)).alloc (.cells #[.int .u64 4294967298] 48)).alloc (.cells #[.int .u64 4294967296,.int .u64 5] 48)).alloc (.cells #[.slice (some ⟨w.heap.size+1+1+1,0,none⟩) 1 1,.slice (some ⟨w.heap.size+1+1+1+1,0,none⟩) 2 2] 27)):=by
 refine⟨?_,?_,?_,?_⟩
 ·exact((((((Blk.fresh w _ _).alloc _).alloc _).alloc _).alloc _).alloc _)
 ·have h:Sg (((w.alloc (.cells #[.int .i64 5,.int .i64 50,.int .i64 0] 24)).alloc (.cells #[.int .u64 8589934596,.int .u64 99,.int .u64 5,.int .u64 0] 48)).alloc (.cells #[.slice (some ⟨w.heap.size+1,0,none⟩) 4 4] 27)) (some ⟨w.heap.size+1+1,0,none⟩) d15:=by
   have h0:=Sg.lit (w:=((w.alloc (.cells #[.int .i64 5,.int .i64 50,.int .i64 0] 24)).alloc (.cells #[.int .u64 8589934596,.int .u64 99,.int .u64 5,.int .u64 0] 48))) [.slice (some ⟨w.heap.size+1,0,none⟩) 4 4] d15 27 (fun j hj=>by
    obtain rfl:j=0:=by simp [d15] at hj;omega
    exact⟨_,rfl,holds_lit15 _ [8589934596,99,5,0] 4 rfl (by decide) _ (by simp)⟩)
   simpa using h0
  exact((h.alloc _).alloc _).alloc _
 ·have h0:=Sg.lit (w:=(((((w.alloc (.cells #[.int .i64 5,.int .i64 50,.int .i64 0] 24)).alloc (.cells #[.int .u64 8589934596,.int .u64 99,.int .u64 5,.int .u64 0] 48)).alloc (.cells #[.slice (some ⟨w.heap.size+1,0,none⟩) 4 4] 27)).alloc (.cells #[.int .u64 4294967298] 48)).alloc (.cells #[.int .u64 4294967296,.int .u64 5] 48))) [.slice (some ⟨w.heap.size+1+1+1,0,none⟩) 1 1,.slice (some ⟨w.heap.size+1+1+1+1,0,none⟩) 2 2] f15 27 (fun j hj=>by
   have:j=0∨j=1:=by simp [f15] at hj;omega
   rcases this with rfl|rfl
   ·exact⟨_,rfl,(holds_lit15 (((w.alloc (.cells #[.int .i64 5,.int .i64 50,.int .i64 0] 24)).alloc (.cells #[.int .u64 8589934596,.int .u64 99,.int .u64 5,.int .u64 0] 48)).alloc (.cells #[.slice (some ⟨w.heap.size+1,0,none⟩) 4 4] 27)) [4294967298] 1 rfl (by decide) _ (by simp)).below ((Below.refl _ _).alloc (Nat.le_refl _) _) (Nat.le_refl _)⟩
   ·exact⟨_,rfl,holds_lit15 _ [4294967296,5] 2 rfl (by decide) _ (by simp)⟩)
  simpa using h0
 ·exact((((((Below.refl w.heap.size w).alloc (Nat.le_refl _) _).alloc (by simp) _).alloc (by simp;omega) _).alloc (by simp;omega) _).alloc (by simp;omega) _).alloc (by simp;omega) _
attribute [local irreducible] msgV canW writeF d15 f15 g15 z15
set_option maxHeartbeats 4000000 in
set_option maxRecDepth 100000 in
theorem awake15_any (w:World)(hT:TabOK w):Calls Tryz.prog 8 #[] w fun e w'=>e=.returned (.bool true)∧Below w.heap.size w w':=by
 have HT:=Lib.hid hT
 clear hT
 go_enter Tryz.func8,Tryz.ntmps8
 go_wp2_with fail
 refine abs_world (F:=fun W=>Blk W w.heap.size #[.int .i64 5,.int .i64 50,.int .i64 0]∧Sg W (some ⟨w.heap.size+1+1,0,none⟩) d15∧Sg W (some ⟨w.heap.size+1+1+1+1+1,0,none⟩) f15∧Below w.heap.size w W) (m15_new w) ?_
 rintro W1 ⟨hl,hd,hf,hb⟩
 have Hl:=Lib.hid hl
 have Hd:=Lib.hid hd
 have Hf:=Lib.hid hf
 have HB:=Lib.hid hb
 clear hl hd hf hb
 refine(CWords_w (some ⟨w.heap.size+1+1,0,none⟩) 1 1 d15 5 50 0 0 [4294967296,5] 2 _ (HT.out.on HB.out) (by unfold d15;rfl) Hd.out ok_d15.1 ok_d15.2.1 ok_d15.2.2.1 (by decide) (by decide) ok_d15.2.2.2.1 ok_d15.2.2.2.2 rfl).mono ?_
 rintro r w2 ⟨A3,c3,rfl,-,hn,-,-,-,hb⟩
 have fl:=Hl.out.below hb
 have fd:=Hd.out.below hb (Nat.le_refl _)
 have ff:=Hf.out.below hb (Nat.le_refl _)
 have HB0:=Lib.hid (bel_on HB.out hb)
 clear hb Hl Hd Hf HB
 have HB:=HB0
 clear HB0
 have Hl:=Lib.hid fl
 clear fl
 have Hd:=Lib.hid fd
 clear fd
 have Hf:=Lib.hid ff
 clear ff
 have Ha:=Lib.hid hn
 clear hn
 obtain⟨xl,yl,zl⟩:=Hl.out
 go_wp2_with fail
 clear xl yl zl
 refine(CWords_w (some ⟨w.heap.size+1+1+1+1+1,0,none⟩) 2 2 f15 5 50 0 0 [4294967296,5] 2 _ (HT.out.on HB.out) (by unfold f15;rfl) Hf.out ok_f15.1 ok_f15.2.1 ok_f15.2.2.1 (by decide) (by decide) ok_f15.2.2.2.1 ok_f15.2.2.2.2 rfl).mono ?_
 rintro r w3 ⟨A4,c4,rfl,-,hn,-,-,-,hb⟩
 have fl:=Hl.out.below hb
 have fd:=Hd.out.below hb (Nat.le_refl _)
 have ff:=Hf.out.below hb (Nat.le_refl _)
 have fa:=Ha.out.below hb (Nat.le_refl _)
 have HB0:=Lib.hid (bel_on HB.out hb)
 clear hb Hl Hd Hf Ha HB
 have HB:=HB0
 clear HB0
 have Hl:=Lib.hid fl
 clear fl
 have Hd:=Lib.hid fd
 clear fd
 have Hf:=Lib.hid ff
 clear ff
 have Ha:=Lib.hid fa
 clear fa
 have Hk:=Lib.hid hn
 clear hn
 obtain⟨xl,yl,zl⟩:=((Hl.out.alloc (.cells #[.int .u64 3] 48)).alloc (.cells #[.slice (some ⟨w3.heap.size,0,none⟩) 1 1] 27))
 go_wp2_with fail
 refine abs_world (F:=fun W=>Blk W w.heap.size #[.int .i64 5,.int .i64 50,.int .i64 0]∧Sg W (some ⟨w.heap.size+1+1,0,none⟩) d15∧Sg W (some ⟨w.heap.size+1+1+1+1+1,0,none⟩) f15∧Ri W .u64 A3 [4294967296,5]∧Ri W .u64 A4 [4294967296,5]∧Sg W (some ⟨w3.heap.size+1,0,none⟩) g15∧Below w.heap.size w W) ⟨?_,?_,?_,?_,?_,?_,?_⟩ ?_
 ·exact((Hl.out.alloc _).alloc _)
 ·exact((Hd.out.alloc _).alloc _)
 ·exact((Hf.out.alloc _).alloc _)
 ·exact(Ri.below (Ri.below Ha.out ((Below.refl _ _).alloc (Nat.le_refl _) _) (Nat.le_refl _)) ((Below.refl _ _).alloc (Nat.le_refl _) _) (Nat.le_refl _))
 ·exact(Ri.below (Ri.below Hk.out ((Below.refl _ _).alloc (Nat.le_refl _) _) (Nat.le_refl _)) ((Below.refl _ _).alloc (Nat.le_refl _) _) (Nat.le_refl _))
 ·exact sg_g15 _
 ·exact((HB.out.alloc (by first|exact Nat.le_refl _|(have:=HB.out.size;simp;omega)|(have:=HB.out.size;omega)|(simp;done)|(simp;omega)) _).alloc (by first|exact Nat.le_refl _|(have:=HB.out.size;simp;omega)|(have:=HB.out.size;omega)|(simp;done)|(simp;omega)) _)
 clear Hl Hd Hf Ha Hk HB xl yl zl
 rintro W4 ⟨hl,hd,hf,ha,hk,hg,hb⟩
 have Hl:=Lib.hid hl
 have Hd:=Lib.hid hd
 have Hf:=Lib.hid hf
 have Ha:=Lib.hid ha
 have Hk:=Lib.hid hk
 have Hg:=Lib.hid hg
 have HB:=Lib.hid hb
 clear hb hl hd hf ha hk hg
 refine(CWords_w (some ⟨w3.heap.size+1,0,none⟩) 1 1 g15 5 50 0 6 [] 0 _ (HT.out.on HB.out) (by unfold g15;rfl) Hg.out ok_g15.1 ok_g15.2.1 ok_g15.2.2.1 (by decide) (by decide) ok_g15.2.2.2.1 ok_g15.2.2.2.2 rfl).mono ?_
 rintro r w5 ⟨A5,c5,rfl,-,-,-,-,-,hb⟩
 have fl:=Hl.out.below hb
 have fd:=Hd.out.below hb (Nat.le_refl _)
 have ff:=Hf.out.below hb (Nat.le_refl _)
 have fa:=Ha.out.below hb (Nat.le_refl _)
 have fk:=Hk.out.below hb (Nat.le_refl _)
 have fg:=Hg.out.below hb (Nat.le_refl _)
 have HB0:=Lib.hid (bel_on HB.out hb)
 clear hb Hl Hd Hf Ha Hk Hg HB
 have HB:=HB0
 clear HB0
 have Hl:=Lib.hid fl
 clear fl
 have Hd:=Lib.hid fd
 clear fd
 have Hf:=Lib.hid ff
 clear ff
 have Ha:=Lib.hid fa
 clear fa
 have Hk:=Lib.hid fk
 clear fk
 have Hg:=Lib.hid fg
 clear fg
 obtain⟨xl,yl,zl⟩:=Hl.out
 go_wp2_with fail
 clear xl yl zl
 refine(CSegs_w (some ⟨w.heap.size+1+1+1+1+1,0,none⟩) 2 2 f15 5 50 0 0 [[4294967296,5]] 1 _ (HT.out.on HB.out) (by unfold f15;rfl) Hf.out ok_f15.1 ok_f15.2.1 ok_f15.2.2.1 (by decide) (by decide) ok_f15.2.2.2.1 sg_f15 rfl).mono ?_
 rintro r w6 ⟨A6,c6,rfl,-,hn,-,-,hb⟩
 have fl:=Hl.out.below hb
 have fd:=Hd.out.below hb (Nat.le_refl _)
 have ff:=Hf.out.below hb (Nat.le_refl _)
 have fa:=Ha.out.below hb (Nat.le_refl _)
 have fk:=Hk.out.below hb (Nat.le_refl _)
 have fg:=Hg.out.below hb (Nat.le_refl _)
 have HB0:=Lib.hid (bel_on HB.out hb)
 clear hb Hl Hd Hf Ha Hk Hg HB
 have HB:=HB0
 clear HB0
 have Hl:=Lib.hid fl
 clear fl
 have Hd:=Lib.hid fd
 clear fd
 have Hf:=Lib.hid ff
 clear ff
 have Ha:=Lib.hid fa
 clear fa
 have Hk:=Lib.hid fk
 clear fk
 have Hg:=Lib.hid fg
 clear fg
 have Hs:=Lib.hid hn
 clear hn
 obtain⟨xl,yl,zl⟩:=((Hl.out.alloc (.cells #[] 48)).alloc (.cells #[.slice (some ⟨w6.heap.size,0,none⟩) 0 0] 27))
 go_wp2_with fail
 refine abs_world (F:=fun W=>Blk W w.heap.size #[.int .i64 5,.int .i64 50,.int .i64 0]∧Sg W (some ⟨w.heap.size+1+1,0,none⟩) d15∧Sg W (some ⟨w.heap.size+1+1+1+1+1,0,none⟩) f15∧Ri W .u64 A3 [4294967296,5]∧Ri W .u64 A4 [4294967296,5]∧Sg W (some ⟨w3.heap.size+1,0,none⟩) g15∧Sg W A6 [[4294967296,5]]∧Sg W (some ⟨w6.heap.size+1,0,none⟩) z15∧Below w.heap.size w W) ⟨?_,?_,?_,?_,?_,?_,?_,?_,?_⟩ ?_
 ·exact((Hl.out.alloc _).alloc _)
 ·exact((Hd.out.alloc _).alloc _)
 ·exact((Hf.out.alloc _).alloc _)
 ·exact(Ri.below (Ri.below Ha.out ((Below.refl _ _).alloc (Nat.le_refl _) _) (Nat.le_refl _)) ((Below.refl _ _).alloc (Nat.le_refl _) _) (Nat.le_refl _))
 ·exact(Ri.below (Ri.below Hk.out ((Below.refl _ _).alloc (Nat.le_refl _) _) (Nat.le_refl _)) ((Below.refl _ _).alloc (Nat.le_refl _) _) (Nat.le_refl _))
 ·exact((Hg.out.alloc _).alloc _)
 ·exact((Hs.out.alloc _).alloc _)
 ·exact sg_z15 _
 ·exact((HB.out.alloc (by first|exact Nat.le_refl _|(have:=HB.out.size;simp;omega)|(have:=HB.out.size;omega)|(simp;done)|(simp;omega)) _).alloc (by first|exact Nat.le_refl _|(have:=HB.out.size;simp;omega)|(have:=HB.out.size;omega)|(simp;done)|(simp;omega)) _)
 clear Hl Hd Hf Ha Hk Hg Hs HB xl yl zl
 rintro W7 ⟨hl,hd,hf,ha,hk,hg,hs,hz,hb⟩
 have Hl:=Lib.hid hl
 have Hd:=Lib.hid hd
 have Hf:=Lib.hid hf
 have Ha:=Lib.hid ha
 have Hk:=Lib.hid hk
 have Hg:=Lib.hid hg
 have Hs:=Lib.hid hs
 have Hz:=Lib.hid hz
 have HB:=Lib.hid hb
 clear hb hl hd hf ha hk hg hs hz
 refine(CWords_w (some ⟨w6.heap.size+1,0,none⟩) 1 1 z15 5 50 0 0 [0] 1 _ (HT.out.on HB.out) (by unfold z15;rfl) Hz.out ok_z15.1 ok_z15.2.1 ok_z15.2.2.1 (by decide) (by decide) ok_z15.2.2.2.1 ok_z15.2.2.2.2 rfl).mono ?_
 rintro r w8 ⟨A7,c7,rfl,-,hn,-,-,-,hb⟩
 have fl:=Hl.out.below hb
 have fd:=Hd.out.below hb (Nat.le_refl _)
 have ff:=Hf.out.below hb (Nat.le_refl _)
 have fa:=Ha.out.below hb (Nat.le_refl _)
 have fk:=Hk.out.below hb (Nat.le_refl _)
 have fg:=Hg.out.below hb (Nat.le_refl _)
 have fs:=Hs.out.below hb (Nat.le_refl _)
 have fz:=Hz.out.below hb (Nat.le_refl _)
 have HB0:=Lib.hid (bel_on HB.out hb)
 clear hb Hl Hd Hf Ha Hk Hg Hs Hz HB
 have HB:=HB0
 clear HB0
 have Hl:=Lib.hid fl
 clear fl
 have Hd:=Lib.hid fd
 clear fd
 have Hf:=Lib.hid ff
 clear ff
 have Ha:=Lib.hid fa
 clear fa
 have Hk:=Lib.hid fk
 clear fk
 have Hg:=Lib.hid fg
 clear fg
 have Hs:=Lib.hid fs
 clear fs
 have Hz:=Lib.hid fz
 clear fz
 have Hy:=Lib.hid hn
 clear hn
 go_wp2_with fail
 clear Hl
 clear Hd
 clear Hf
 clear Hg
 clear Hz
 refine abs_world (F:=fun W=>Ri W .u64 A3 [4294967296,5]∧Ri W .u64 A4 [4294967296,5]∧Sg W A6 [[4294967296,5]]∧Ri W .u64 A7 [0]∧Ri W .u64 (some ⟨w8.heap.size,0,none⟩) [4294967296,5]∧Below w.heap.size w W) ⟨?_,?_,?_,?_,?_,?_⟩ ?_
 ·exact(Ri.below Ha.out ((Below.refl _ _).alloc (Nat.le_refl _) _) (Nat.le_refl _))
 ·exact(Ri.below Hk.out ((Below.refl _ _).alloc (Nat.le_refl _) _) (Nat.le_refl _))
 ·exact(Hs.out.alloc _)
 ·exact(Ri.below Hy.out ((Below.refl _ _).alloc (Nat.le_refl _) _) (Nat.le_refl _))
 ·exact Ri.lit _ .u64 [4294967296,5] 48
 ·exact(HB.out.alloc (by first|exact Nat.le_refl _|(have:=HB.out.size;simp;omega)|(have:=HB.out.size;omega)|(simp;done)|(simp;omega)) _)
 clear Ha Hk Hs Hy HB
 rintro W9 ⟨ha,hk,hs,hy,ht,hb⟩
 have Ha:=Lib.hid ha
 have Hk:=Lib.hid hk
 have Hs:=Lib.hid hs
 have Hy:=Lib.hid hy
 have Ht:=Lib.hid ht
 have HB:=Lib.hid hb
 clear hb ha hk hs hy ht
 refine(SameWords_15 A3 (some ⟨w8.heap.size,0,none⟩) c3 2 [4294967296,5] [4294967296,5] 2 2 true _ Ha.out Ht.out rfl rfl (by decide) (by decide) (by decide)).mono ?_
 rintro r w10 ⟨rfl,hb⟩
 have fa:=Ha.out.below hb (Nat.le_refl _)
 have fk:=Hk.out.below hb (Nat.le_refl _)
 have fs:=Hs.out.below hb (Nat.le_refl _)
 have fy:=Hy.out.below hb (Nat.le_refl _)
 have ft:=Ht.out.below hb (Nat.le_refl _)
 have HB0:=Lib.hid (bel_on HB.out hb)
 clear hb Ha Hk Hs Hy Ht HB
 have HB:=HB0
 clear HB0
 have Ha:=Lib.hid fa
 clear fa
 have Hk:=Lib.hid fk
 clear fk
 have Hs:=Lib.hid fs
 clear fs
 have Hy:=Lib.hid fy
 clear fy
 have Ht:=Lib.hid ft
 clear ft
 go_wp2_with fail
 refine(SameWords_15 A4 (some ⟨w8.heap.size,0,none⟩) c4 2 [4294967296,5] [4294967296,5] 2 2 true _ Hk.out Ht.out rfl rfl (by decide) (by decide) (by decide)).mono ?_
 rintro r w11 ⟨rfl,hb⟩
 have fa:=Ha.out.below hb (Nat.le_refl _)
 have fk:=Hk.out.below hb (Nat.le_refl _)
 have fs:=Hs.out.below hb (Nat.le_refl _)
 have fy:=Hy.out.below hb (Nat.le_refl _)
 have ft:=Ht.out.below hb (Nat.le_refl _)
 have HB0:=Lib.hid (bel_on HB.out hb)
 clear hb Ha Hk Hs Hy Ht HB
 have HB:=HB0
 clear HB0
 have Ha:=Lib.hid fa
 clear fa
 have Hk:=Lib.hid fk
 clear fk
 have Hs:=Lib.hid fs
 clear fs
 have Hy:=Lib.hid fy
 clear fy
 have Ht:=Lib.hid ft
 clear ft
 obtain⟨b6,o6,A8,c8,rfl,hc6,hr6,-,-,-⟩:=Hs.out.one (i:=0) (by decide)
 rw [Nat.add_zero] at hc6
 have hsl:(seg [[4294967296,5]] 0).length=2:=rfl
 rw [hsl] at hc6
 have H8:=Lib.hid hr6
 clear hr6 hsl
 go_wp2_with fail
 clear hc6
 refine(SameWords_15 A8 (some ⟨w8.heap.size,0,none⟩) c8 2 [4294967296,5] [4294967296,5] 2 2 true _ H8.out Ht.out rfl rfl (by decide) (by decide) (by decide)).mono ?_
 rintro r w12 ⟨rfl,hb⟩
 have fa:=Ha.out.below hb (Nat.le_refl _)
 have fk:=Hk.out.below hb (Nat.le_refl _)
 have fs:=Hs.out.below hb (Nat.le_refl _)
 have fy:=Hy.out.below hb (Nat.le_refl _)
 have ft:=Ht.out.below hb (Nat.le_refl _)
 have f8:=H8.out.below hb (Nat.le_refl _)
 have HB0:=Lib.hid (bel_on HB.out hb)
 clear hb Ha Hk Hs Hy Ht H8 HB
 have HB:=HB0
 clear HB0
 have Ha:=Lib.hid fa
 clear fa
 have Hk:=Lib.hid fk
 clear fk
 have Hs:=Lib.hid fs
 clear fs
 have Hy:=Lib.hid fy
 clear fy
 have Ht:=Lib.hid ft
 clear ft
 have H8:=Lib.hid f8
 clear f8
 go_wp2_with fail
 refine(SameWords_15 A7 (some ⟨w12.heap.size,0,none⟩) c7 1 [0] [0] 1 1 true _ (Hy.out.alloc _) (Ri.lit _ .u64 [0] 48) rfl rfl (by decide) (by decide) (by decide)).mono ?_
 rintro r w99 ⟨rfl,hb⟩
 have HZ:=Lib.hid ((HB.out.alloc HB.out.size (.cells #[.int .u64 0] 48)).trans (hb.mono (by have:=HB.out.size;simp;omega)))
 clear hb
 go_wp2
 go_ret
 exact⟨rfl,HZ.out⟩
end
end Go.Proofs.YtbpmeppdjicmhaaGreatDoor
