/- The texts Ptr (what is wanted of them), one after the other. -/
import Derived.Test.YtbpmeppdjicmhaaGreatDoorMg2
import Derived.Test.YtbpmeppdjicmhaaGreatDoorMg4
import Derived.StillTailTactics
namespace Go.Proofs.YtbpmeppdjicmhaaGreatDoor
open Go.ChangeShapes Go.WideShapes Go.ChangeAt Go.RowKit
set_option linter.unusedVariables false
set_option linter.unusedSimpArgs false
set_option maxRecDepth 100000
theorem unsigned_dec (b j:Nat)(x y a n:Int)(w:World)(hx:w.cell? ⟨b,0,none⟩=some (.int .u64 x))(he:w.cell? ⟨b,11,none⟩=some (.bool false))(hy:w.cell? ⟨b,j,none⟩=some (.int .i64 y))(hf:w.frozen? ⟨b,j,none⟩=false)
  (h1:1≤n) (h2:0≤a) (h3:a+n≤64) (h4:n≤63) (h5:0≤x) (h6:x<18446744073709551616) :
  Calls Tryz.prog 139 #[.pointer (some ⟨b,0,none⟩),.int .i64 a,.int .i64 n,.pointer (some ⟨b,j,none⟩)] w fun e w'=>e=.returned (.tuple #[])∧w'=w.setCell ⟨b,j,none⟩ (.int .i64 (fld x a n)):=by
 have hb:=fld_bd x a n (by omega)
 have hl:=fld_lt63 x a n h4
 go_enter Tryz.func139,Tryz.ntmps139
 go_wp2_with (go_at_call 147;refine(Field_any _ _ _ _ h1 h2 h3 h5 h6).mono ?_;rintro e w' ⟨rfl,rfl⟩)
 go_end0
 exact⟨rfl,rfl⟩
set_option maxRecDepth 100000 in
theorem unsigned_enc (b j:Nat)(x y a n:Int)(w:World)(hx:w.cell? ⟨b,0,none⟩=some (.int .u64 x))(he:w.cell? ⟨b,11,none⟩=some (.bool true))(hy:w.cell? ⟨b,j,none⟩=some (.int .i64 y))(hf:w.frozen? ⟨b,0,none⟩=false)
  (h1:1≤n) (h2:0≤a) (h3:a+n≤64) (h5:0≤x) (h6:x<18446744073709551616) :
  Calls Tryz.prog 139 #[.pointer (some ⟨b,0,none⟩),.int .i64 a,.int .i64 n,.pointer (some ⟨b,j,none⟩)] w fun e w'=>e=.returned (.tuple #[])∧w'=(w.setCell ⟨b,0,none⟩ (.int .u64 (ins x a n (IntKind.u64.wrap y)))).drew:=by
 go_enter Tryz.func139,Tryz.ntmps139
 go_wp2
 go_still_tail 14,(by kernel_rfl)
 still_call ((Insert_any _ _ _ _ _ (by omega) (by omega) (by omega) (by omega) (by omega) (by rw [IntKind.wrap_u64];omega) (by rw [IntKind.wrap_u64];omega)).mono fun e w' h=>⟨h.1,h.2.symm⟩)
 repeat still_step
 refine wpStill_nil ?_
 change wpList _ _ _ _ _ w.drew
 go_wp2
 go_end0
 exact⟨rfl,rfl⟩
theorem signed_dec (b j:Nat)(x y a n:Int)(w:World)(hx:w.cell? ⟨b,0,none⟩=some (.int .u64 x))(he:w.cell? ⟨b,11,none⟩=some (.bool false))(hy:w.cell? ⟨b,j,none⟩=some (.int .i64 y))(hf:w.frozen? ⟨b,j,none⟩=false)
  (h1:1≤n) (h2:0≤a) (h3:a+n≤64) (h5:0≤x) (h6:x<18446744073709551616) :
  Calls Tryz.prog 149 #[.pointer (some ⟨b,0,none⟩),.int .i64 a,.int .i64 n,.pointer (some ⟨b,j,none⟩)] w fun e w'=>e=.returned (.tuple #[])∧w'=w.setCell ⟨b,j,none⟩ (.int .i64 (sgn x a n)):=by
 have hm:=sgn_bd x a n h1 (by omega)
 go_enter Tryz.func149,Tryz.ntmps149
 go_wp2_with (go_at_call 157;refine(Signed_any _ _ _ _ h1 h2 h3 h5 h6).mono ?_;rintro e w' ⟨rfl,rfl⟩)
 go_end0
 exact⟨rfl,rfl⟩
set_option maxRecDepth 100000 in
theorem signed_enc (b j:Nat)(x y a n:Int)(w:World)(hx:w.cell? ⟨b,0,none⟩=some (.int .u64 x))(he:w.cell? ⟨b,11,none⟩=some (.bool true))(hy:w.cell? ⟨b,j,none⟩=some (.int .i64 y))(hf:w.frozen? ⟨b,0,none⟩=false)
  (h1:1≤n) (h2:0≤a) (h3:a+n≤64) (h5:0≤x) (h6:x<18446744073709551616) :
  Calls Tryz.prog 149 #[.pointer (some ⟨b,0,none⟩),.int .i64 a,.int .i64 n,.pointer (some ⟨b,j,none⟩)] w fun e w'=>e=.returned (.tuple #[])∧w'=(w.setCell ⟨b,0,none⟩ (.int .u64 (ins x a n (IntKind.u64.wrap y)))).drew:=by
 go_enter Tryz.func149,Tryz.ntmps149
 go_wp2
 go_still_tail 14,(by kernel_rfl)
 still_call ((Insert_any _ _ _ _ _ (by omega) (by omega) (by omega) (by omega) (by omega) (by rw [IntKind.wrap_u64];omega) (by rw [IntKind.wrap_u64];omega)).mono fun e w' h=>⟨h.1,h.2.symm⟩)
 repeat still_step
 refine wpStill_nil ?_
 change wpList _ _ _ _ _ w.drew
 go_wp2
 go_end0
 exact⟨rfl,rfl⟩
theorem fld_lt32 (x a n:Int)(h:n≤32):fld x a n<4294967296:=by
 have:=fld_lt x a n
 have h2:=Nat.pow_le_pow_right (n:=2) (by decide) (show n.toNat≤32 by omega)
 have e:(2:Int) ^ n.toNat=((2 ^ n.toNat:Nat):Int):=by simp
 rw [e] at this
 omega
theorem unsigned32_dec (b j:Nat)(x y a n:Int)(w:World)(hx:w.cell? ⟨b,0,none⟩=some (.int .u64 x))(he:w.cell? ⟨b,11,none⟩=some (.bool false))(hy:w.cell? ⟨b,j,none⟩=some (.int .u32 y))(hf:w.frozen? ⟨b,j,none⟩=false)
  (h1:1≤n) (h2:0≤a) (h3:a+n≤64) (h4:n≤32) (h5:0≤x) (h6:x<18446744073709551616) :
  Calls Tryz.prog 153 #[.pointer (some ⟨b,0,none⟩),.int .i64 a,.int .i64 n,.pointer (some ⟨b,j,none⟩)] w fun e w'=>e=.returned (.tuple #[])∧w'=w.setCell ⟨b,j,none⟩ (.int .u32 (fld x a n)):=by
 have hb:=fld_bd x a n (by omega)
 have hl:=fld_lt32 x a n h4
 have HW:Hid (IntKind.u32.wrap (fld x a n)=fld x a n):=Lib.hid (by rw [IntKind.wrap_u32];omega)
 go_enter Tryz.func153,Tryz.ntmps153
 go_wp2_with (go_at_call 147;refine(Field_any _ _ _ _ h1 h2 h3 h5 h6).mono ?_;rintro e w' ⟨rfl,rfl⟩)
 go_end0
 exact⟨rfl,by first|rfl|rw [HW.out]⟩
set_option maxRecDepth 100000 in
theorem unsigned32_enc (b j:Nat)(x y a n:Int)(w:World)(hx:w.cell? ⟨b,0,none⟩=some (.int .u64 x))(he:w.cell? ⟨b,11,none⟩=some (.bool true))(hy:w.cell? ⟨b,j,none⟩=some (.int .u32 y))(hf:w.frozen? ⟨b,0,none⟩=false)
  (h1:1≤n) (h2:0≤a) (h3:a+n≤64) (h5:0≤x) (h6:x<18446744073709551616) :
  Calls Tryz.prog 153 #[.pointer (some ⟨b,0,none⟩),.int .i64 a,.int .i64 n,.pointer (some ⟨b,j,none⟩)] w fun e w'=>e=.returned (.tuple #[])∧w'=(w.setCell ⟨b,0,none⟩ (.int .u64 (ins x a n (IntKind.u64.wrap y)))).drew:=by
 go_enter Tryz.func153,Tryz.ntmps153
 go_wp2
 go_still_tail 14,(by kernel_rfl)
 still_call ((Insert_any _ _ _ _ _ (by omega) (by omega) (by omega) (by omega) (by omega) (by rw [IntKind.wrap_u64];omega) (by rw [IntKind.wrap_u64];omega)).mono fun e w' h=>⟨h.1,h.2.symm⟩)
 repeat still_step
 refine wpStill_nil ?_
 change wpList _ _ _ _ _ w.drew
 go_wp2
 go_end0
 exact⟨rfl,rfl⟩
theorem flag_dec (b j:Nat)(x a:Int)(y:Bool)(w:World)(hx:w.cell? ⟨b,0,none⟩=some (.int .u64 x))(he:w.cell? ⟨b,11,none⟩=some (.bool false))(hy:w.cell? ⟨b,j,none⟩=some (.bool y))(hf:w.frozen? ⟨b,j,none⟩=false)
  (h2:0≤a) (h3:a+1≤64) (h5:0≤x) (h6:x<18446744073709551616) :
  Calls Tryz.prog 152 #[.pointer (some ⟨b,0,none⟩),.int .i64 a,.pointer (some ⟨b,j,none⟩)] w fun e w'=>e=.returned (.tuple #[])∧w'=w.setCell ⟨b,j,none⟩ (.bool (fld x a 1==1)):=by
 go_enter Tryz.func152,Tryz.ntmps152
 go_wp2_with (go_at_call 147;refine(Field_any _ _ _ _ (by omega) h2 h3 h5 h6).mono ?_;rintro e w' ⟨rfl,rfl⟩)
 go_end0
 exact⟨rfl,rfl⟩
set_option maxRecDepth 100000 in
theorem flag_enc (b j:Nat)(x a:Int)(y:Bool)(w:World)(hx:w.cell? ⟨b,0,none⟩=some (.int .u64 x))(he:w.cell? ⟨b,11,none⟩=some (.bool true))(hy:w.cell? ⟨b,j,none⟩=some (.bool y))(hf:w.frozen? ⟨b,0,none⟩=false)
  (h2:0≤a) (h3:a+1≤64) (h5:0≤x) (h6:x<18446744073709551616) :
  Calls Tryz.prog 152 #[.pointer (some ⟨b,0,none⟩),.int .i64 a,.pointer (some ⟨b,j,none⟩)] w fun e w'=>e=.returned (.tuple #[])∧w'=if y then w.setCell ⟨b,0,none⟩ (.int .u64 (ins x a 1 1)) else w:=by
 cases y
 ·go_enter Tryz.func152,Tryz.ntmps152
  go_wp2
  go_end0
  exact⟨rfl,rfl⟩
 ·go_enter Tryz.func152,Tryz.ntmps152
  go_wp2_with (go_at_call 146;refine(Insert_any _ _ _ _ _ (by omega) h2 h3 h5 h6 (by omega) (by omega)).mono ?_;rintro e w' ⟨rfl,rfl⟩)
  go_end0
  exact⟨rfl,rfl⟩
set_option maxHeartbeats 400000 in
theorem layout1_dec (x k o d p el c pa sg lo:Int)(db:Bool)(w:World)(h5:0≤x)(h6:x<18446744073709551616):
  Calls Tryz.prog 148 #[.agg #[.int .u64 x,.int .i64 k,.int .i64 o,.int .i64 d,.int .i64 p,.int .i64 el,.int .i64 c,.bool db,.int .i64 pa,.int .u32 sg,.int .u32 lo,.bool false]] w fun e w'=>
   e=.returned (.agg #[.int .u64 x,.int .i64 k,.int .i64 (sgn x 2 30),.int .i64 (fld x 32 16),.int .i64 (fld x 48 16),.int .i64 el,.int .i64 c,.bool db,.int .i64 pa,.int .u32 sg,.int .u32 lo,.bool false])∧Below w.heap.size w w':=by
 go_enter Tryz.func148,Tryz.ntmps148
 go_wp2_with fail
 refine(signed_dec w.heap.size 2 x o 2 30 _ (by go_simp) (by go_simp) (by go_simp) (by go_simp) (by omega) (by omega) (by omega) h5 h6).mono ?_
 rintro e w' ⟨rfl,rfl⟩
 go_wp2_with fail
 refine(unsigned_dec w.heap.size 3 x d 32 16 _ (by go_simp) (by go_simp) (by go_simp) (by go_simp) (by omega) (by omega) (by omega) (by omega) h5 h6).mono ?_
 rintro e w' ⟨rfl,rfl⟩
 go_wp2_with fail
 refine(unsigned_dec w.heap.size 4 x p 48 16 _ (by go_simp) (by go_simp) (by go_simp) (by go_simp) (by omega) (by omega) (by omega) (by omega) h5 h6).mono ?_
 rintro e w' ⟨rfl,rfl⟩
 go_wp2
 refine bodyPost_ret (v:=.agg #[.int .u64 x,.int .i64 k,.int .i64 (sgn x 2 30),.int .i64 (fld x 32 16),.int .i64 (fld x 48 16),.int .i64 el,.int .i64 c,.bool db,.int .i64 pa,.int .u32 sg,.int .u32 lo,.bool false]) (by simp [results,Tryz.results148,go_sem]) rfl ⟨rfl,?_⟩
 exact((Below.refl _ _).alloc (Nat.le_refl _) _).alloc (by simp) _
set_option maxHeartbeats 400000 in
theorem layout1_enc (x k o d p el c pa sg lo:Int)(w:World)(h5:0≤x)(h6:x<18446744073709551616)(db:Bool):
  Calls Tryz.prog 148 #[.agg #[.int .u64 x,.int .i64 k,.int .i64 o,.int .i64 d,.int .i64 p,.int .i64 el,.int .i64 c,.bool db,.int .i64 pa,.int .u32 sg,.int .u32 lo,.bool true]] w fun e w'=>
   e=.returned (.agg #[.int .u64 (ins (ins (ins x 2 30 (IntKind.u64.wrap o)) 32 16 (IntKind.u64.wrap d)) 48 16 (IntKind.u64.wrap p)),.int .i64 k,.int .i64 o,.int .i64 d,.int .i64 p,.int .i64 el,.int .i64 c,.bool db,.int .i64 pa,.int .u32 sg,.int .u32 lo,.bool true])∧Below w.heap.size w w':=by
 go_enter Tryz.func148,Tryz.ntmps148
 go_wp2_with fail
 refine(signed_enc w.heap.size 2 x o 2 30 _ (by go_simp) (by go_simp) (by go_simp) (by go_simp) (by omega) (by omega) (by omega) h5 h6).mono ?_
 rintro e w' ⟨rfl,rfl⟩
 have b1:=ins_bd x 2 30 (IntKind.u64.wrap o) (by omega) (by omega) (by omega) h6
 go_wp2_with fail
 refine(unsigned_enc w.heap.size 3 (ins x 2 30 (IntKind.u64.wrap o)) d 32 16 _ (by go_simp) (by go_simp) (by go_simp) (by go_simp) (by omega) (by omega) (by omega) b1.1 b1.2).mono ?_
 rintro e w' ⟨rfl,rfl⟩
 have b2:=ins_bd (ins x 2 30 (IntKind.u64.wrap o)) 32 16 (IntKind.u64.wrap d) (by omega) (by omega) (by omega) b1.2
 go_wp2_with fail
 refine(unsigned_enc w.heap.size 4 (ins (ins x 2 30 (IntKind.u64.wrap o)) 32 16 (IntKind.u64.wrap d)) p 48 16 _ (by go_simp) (by go_simp) (by go_simp) (by go_simp) (by omega) (by omega) (by omega) b2.1 b2.2).mono ?_
 rintro e w' ⟨rfl,rfl⟩
 have b3:=ins_bd (ins (ins x 2 30 (IntKind.u64.wrap o)) 32 16 (IntKind.u64.wrap d)) 48 16 (IntKind.u64.wrap p) (by omega) (by omega) (by omega) b2.2
 go_wp2
 refine bodyPost_ret (v:=.agg #[.int .u64 (ins (ins (ins x 2 30 (IntKind.u64.wrap o)) 32 16 (IntKind.u64.wrap d)) 48 16 (IntKind.u64.wrap p)),.int .i64 k,.int .i64 o,.int .i64 d,.int .i64 p,.int .i64 el,.int .i64 c,.bool db,.int .i64 pa,.int .u32 sg,.int .u32 lo,.bool true]) (by simp [results,Tryz.results148,go_sem]) rfl ⟨rfl,?_⟩
 repeat (refine bel_drew ?_)
 exact((Below.refl _ _).alloc (Nat.le_refl _) _).alloc (by simp) _
set_option maxHeartbeats 400000 in
theorem layout2_dec (x k o d p el c pa sg lo:Int)(db:Bool)(w:World)(h5:0≤x)(h6:x<18446744073709551616):
  Calls Tryz.prog 150 #[.agg #[.int .u64 x,.int .i64 k,.int .i64 o,.int .i64 d,.int .i64 p,.int .i64 el,.int .i64 c,.bool db,.int .i64 pa,.int .u32 sg,.int .u32 lo,.bool false]] w fun e w'=>
   e=.returned (.agg #[.int .u64 x,.int .i64 k,.int .i64 (sgn x 2 30),.int .i64 d,.int .i64 p,.int .i64 (fld x 32 3),.int .i64 (fld x 35 29),.bool db,.int .i64 pa,.int .u32 sg,.int .u32 lo,.bool false])∧Below w.heap.size w w':=by
 go_enter Tryz.func150,Tryz.ntmps150
 go_wp2_with fail
 refine(signed_dec w.heap.size 2 x o 2 30 _ (by go_simp) (by go_simp) (by go_simp) (by go_simp) (by omega) (by omega) (by omega) h5 h6).mono ?_
 rintro e w' ⟨rfl,rfl⟩
 go_wp2_with fail
 refine(unsigned_dec w.heap.size 5 x el 32 3 _ (by go_simp) (by go_simp) (by go_simp) (by go_simp) (by omega) (by omega) (by omega) (by omega) h5 h6).mono ?_
 rintro e w' ⟨rfl,rfl⟩
 go_wp2_with fail
 refine(unsigned_dec w.heap.size 6 x c 35 29 _ (by go_simp) (by go_simp) (by go_simp) (by go_simp) (by omega) (by omega) (by omega) (by omega) h5 h6).mono ?_
 rintro e w' ⟨rfl,rfl⟩
 go_wp2
 refine bodyPost_ret (v:=.agg #[.int .u64 x,.int .i64 k,.int .i64 (sgn x 2 30),.int .i64 d,.int .i64 p,.int .i64 (fld x 32 3),.int .i64 (fld x 35 29),.bool db,.int .i64 pa,.int .u32 sg,.int .u32 lo,.bool false]) (by simp [results,Tryz.results150,go_sem]) rfl ⟨rfl,?_⟩
 exact((Below.refl _ _).alloc (Nat.le_refl _) _).alloc (by simp) _
set_option maxHeartbeats 400000 in
theorem layout2_enc (x k o d p el c pa sg lo:Int)(w:World)(h5:0≤x)(h6:x<18446744073709551616)(db:Bool):
  Calls Tryz.prog 150 #[.agg #[.int .u64 x,.int .i64 k,.int .i64 o,.int .i64 d,.int .i64 p,.int .i64 el,.int .i64 c,.bool db,.int .i64 pa,.int .u32 sg,.int .u32 lo,.bool true]] w fun e w'=>
   e=.returned (.agg #[.int .u64 (ins (ins (ins x 2 30 (IntKind.u64.wrap o)) 32 3 (IntKind.u64.wrap el)) 35 29 (IntKind.u64.wrap c)),.int .i64 k,.int .i64 o,.int .i64 d,.int .i64 p,.int .i64 el,.int .i64 c,.bool db,.int .i64 pa,.int .u32 sg,.int .u32 lo,.bool true])∧Below w.heap.size w w':=by
 go_enter Tryz.func150,Tryz.ntmps150
 go_wp2_with fail
 refine(signed_enc w.heap.size 2 x o 2 30 _ (by go_simp) (by go_simp) (by go_simp) (by go_simp) (by omega) (by omega) (by omega) h5 h6).mono ?_
 rintro e w' ⟨rfl,rfl⟩
 have b1:=ins_bd x 2 30 (IntKind.u64.wrap o) (by omega) (by omega) (by omega) h6
 go_wp2_with fail
 refine(unsigned_enc w.heap.size 5 (ins x 2 30 (IntKind.u64.wrap o)) el 32 3 _ (by go_simp) (by go_simp) (by go_simp) (by go_simp) (by omega) (by omega) (by omega) b1.1 b1.2).mono ?_
 rintro e w' ⟨rfl,rfl⟩
 have b2:=ins_bd (ins x 2 30 (IntKind.u64.wrap o)) 32 3 (IntKind.u64.wrap el) (by omega) (by omega) (by omega) b1.2
 go_wp2_with fail
 refine(unsigned_enc w.heap.size 6 (ins (ins x 2 30 (IntKind.u64.wrap o)) 32 3 (IntKind.u64.wrap el)) c 35 29 _ (by go_simp) (by go_simp) (by go_simp) (by go_simp) (by omega) (by omega) (by omega) b2.1 b2.2).mono ?_
 rintro e w' ⟨rfl,rfl⟩
 have b3:=ins_bd (ins (ins x 2 30 (IntKind.u64.wrap o)) 32 3 (IntKind.u64.wrap el)) 35 29 (IntKind.u64.wrap c) (by omega) (by omega) (by omega) b2.2
 go_wp2
 refine bodyPost_ret (v:=.agg #[.int .u64 (ins (ins (ins x 2 30 (IntKind.u64.wrap o)) 32 3 (IntKind.u64.wrap el)) 35 29 (IntKind.u64.wrap c)),.int .i64 k,.int .i64 o,.int .i64 d,.int .i64 p,.int .i64 el,.int .i64 c,.bool db,.int .i64 pa,.int .u32 sg,.int .u32 lo,.bool true]) (by simp [results,Tryz.results150,go_sem]) rfl ⟨rfl,?_⟩
 repeat (refine bel_drew ?_)
 exact((Below.refl _ _).alloc (Nat.le_refl _) _).alloc (by simp) _
set_option maxHeartbeats 400000 in
theorem layout3_dec (x k o d p el c pa sg lo:Int)(db:Bool)(w:World)(h5:0≤x)(h6:x<18446744073709551616):
  Calls Tryz.prog 151 #[.agg #[.int .u64 x,.int .i64 k,.int .i64 o,.int .i64 d,.int .i64 p,.int .i64 el,.int .i64 c,.bool db,.int .i64 pa,.int .u32 sg,.int .u32 lo,.bool false]] w fun e w'=>
   e=.returned (.agg #[.int .u64 x,.int .i64 k,.int .i64 o,.int .i64 d,.int .i64 p,.int .i64 el,.int .i64 c,.bool (fld x 2 1==1),.int .i64 (fld x 3 29),.int .u32 (fld x 32 32),.int .u32 lo,.bool false])∧Below w.heap.size w w':=by
 have HB:=Lib.hid (rfl:(fld x 2 1==1)=(fld x 2 1==1))
 go_enter Tryz.func151,Tryz.ntmps151
 go_wp2_with fail
 refine(flag_dec w.heap.size 7 x 2 db _ (by go_simp) (by go_simp) (by go_simp) (by go_simp) (by omega) (by omega) h5 h6).mono ?_
 rintro e w' ⟨rfl,rfl⟩
 go_wp2_with fail
 refine(unsigned_dec w.heap.size 8 x pa 3 29 _ (by go_simp) (by go_simp) (by go_simp) (by go_simp) (by omega) (by omega) (by omega) (by omega) h5 h6).mono ?_
 rintro e w' ⟨rfl,rfl⟩
 go_wp2_with fail
 refine(unsigned32_dec w.heap.size 9 x sg 32 32 _ (by go_simp) (by go_simp) (by go_simp) (by go_simp) (by omega) (by omega) (by omega) (by omega) h5 h6).mono ?_
 rintro e w' ⟨rfl,rfl⟩
 go_wp2
 refine bodyPost_ret (v:=.agg #[.int .u64 x,.int .i64 k,.int .i64 o,.int .i64 d,.int .i64 p,.int .i64 el,.int .i64 c,.bool (fld x 2 1==1),.int .i64 (fld x 3 29),.int .u32 (fld x 32 32),.int .u32 lo,.bool false]) (by simp [results,Tryz.results151,go_sem]) rfl ⟨rfl,?_⟩
 exact((Below.refl _ _).alloc (Nat.le_refl _) _).alloc (by simp) _
set_option maxHeartbeats 400000 in
theorem layout3_enc_true (x k o d p el c pa sg lo:Int)(w:World)(h5:0≤x)(h6:x<18446744073709551616):
  Calls Tryz.prog 151 #[.agg #[.int .u64 x,.int .i64 k,.int .i64 o,.int .i64 d,.int .i64 p,.int .i64 el,.int .i64 c,.bool true,.int .i64 pa,.int .u32 sg,.int .u32 lo,.bool true]] w fun e w'=>
   e=.returned (.agg #[.int .u64 (ins (ins (ins x 2 1 1) 3 29 (IntKind.u64.wrap pa)) 32 32 (IntKind.u64.wrap sg)),.int .i64 k,.int .i64 o,.int .i64 d,.int .i64 p,.int .i64 el,.int .i64 c,.bool true,.int .i64 pa,.int .u32 sg,.int .u32 lo,.bool true])∧Below w.heap.size w w':=by
 go_enter Tryz.func151,Tryz.ntmps151
 go_wp2_with fail
 refine(flag_enc w.heap.size 7 x 2 true _ (by go_simp) (by go_simp) (by go_simp) (by go_simp) (by omega) (by omega) h5 h6).mono ?_
 rintro e w' ⟨rfl,rfl⟩
 have b1:=ins_bd x 2 1 1 (by omega) (by omega) (by omega) h6
 go_wp2_with fail
 refine(unsigned_enc w.heap.size 8 (ins x 2 1 1) pa 3 29 _ (by go_simp) (by go_simp) (by go_simp) (by go_simp) (by omega) (by omega) (by omega) b1.1 b1.2).mono ?_
 rintro e w' ⟨rfl,rfl⟩
 have b2:=ins_bd (ins x 2 1 1) 3 29 (IntKind.u64.wrap pa) (by omega) (by omega) (by omega) b1.2
 go_wp2_with fail
 refine(unsigned32_enc w.heap.size 9 (ins (ins x 2 1 1) 3 29 (IntKind.u64.wrap pa)) sg 32 32 _ (by go_simp) (by go_simp) (by go_simp) (by go_simp) (by omega) (by omega) (by omega) b2.1 b2.2).mono ?_
 rintro e w' ⟨rfl,rfl⟩
 have b3:=ins_bd (ins (ins x 2 1 1) 3 29 (IntKind.u64.wrap pa)) 32 32 (IntKind.u64.wrap sg) (by omega) (by omega) (by omega) b2.2
 go_wp2
 refine bodyPost_ret (v:=.agg #[.int .u64 (ins (ins (ins x 2 1 1) 3 29 (IntKind.u64.wrap pa)) 32 32 (IntKind.u64.wrap sg)),.int .i64 k,.int .i64 o,.int .i64 d,.int .i64 p,.int .i64 el,.int .i64 c,.bool true,.int .i64 pa,.int .u32 sg,.int .u32 lo,.bool true]) (by simp [results,Tryz.results151,go_sem]) rfl ⟨rfl,?_⟩
 repeat (refine bel_drew ?_)
 exact((Below.refl _ _).alloc (Nat.le_refl _) _).alloc (by simp) _
set_option maxHeartbeats 400000 in
theorem layout3_enc_false (x k o d p el c pa sg lo:Int)(w:World)(h5:0≤x)(h6:x<18446744073709551616):
  Calls Tryz.prog 151 #[.agg #[.int .u64 x,.int .i64 k,.int .i64 o,.int .i64 d,.int .i64 p,.int .i64 el,.int .i64 c,.bool false,.int .i64 pa,.int .u32 sg,.int .u32 lo,.bool true]] w fun e w'=>
   e=.returned (.agg #[.int .u64 (ins (ins x 3 29 (IntKind.u64.wrap pa)) 32 32 (IntKind.u64.wrap sg)),.int .i64 k,.int .i64 o,.int .i64 d,.int .i64 p,.int .i64 el,.int .i64 c,.bool false,.int .i64 pa,.int .u32 sg,.int .u32 lo,.bool true])∧Below w.heap.size w w':=by
 go_enter Tryz.func151,Tryz.ntmps151
 go_wp2_with fail
 refine(flag_enc w.heap.size 7 x 2 false _ (by go_simp) (by go_simp) (by go_simp) (by go_simp) (by omega) (by omega) h5 h6).mono ?_
 rintro e w' ⟨rfl,rfl⟩
 go_wp2_with fail
 refine(unsigned_enc w.heap.size 8 x pa 3 29 _ (by go_simp) (by go_simp) (by go_simp) (by go_simp) (by omega) (by omega) (by omega) h5 h6).mono ?_
 rintro e w' ⟨rfl,rfl⟩
 have b2:=ins_bd x 3 29 (IntKind.u64.wrap pa) (by omega) (by omega) (by omega) h6
 go_wp2_with fail
 refine(unsigned32_enc w.heap.size 9 (ins x 3 29 (IntKind.u64.wrap pa)) sg 32 32 _ (by go_simp) (by go_simp) (by go_simp) (by go_simp) (by omega) (by omega) (by omega) b2.1 b2.2).mono ?_
 rintro e w' ⟨rfl,rfl⟩
 have b3:=ins_bd (ins x 3 29 (IntKind.u64.wrap pa)) 32 32 (IntKind.u64.wrap sg) (by omega) (by omega) (by omega) b2.2
 go_wp2
 refine bodyPost_ret (v:=.agg #[.int .u64 (ins (ins x 3 29 (IntKind.u64.wrap pa)) 32 32 (IntKind.u64.wrap sg)),.int .i64 k,.int .i64 o,.int .i64 d,.int .i64 p,.int .i64 el,.int .i64 c,.bool false,.int .i64 pa,.int .u32 sg,.int .u32 lo,.bool true]) (by simp [results,Tryz.results151,go_sem]) rfl ⟨rfl,?_⟩
 repeat (refine bel_drew ?_)
 exact((Below.refl _ _).alloc (Nat.le_refl _) _).alloc (by simp) _
set_option maxHeartbeats 400000 in
theorem layout4_dec (x k o d p el c pa sg lo:Int)(db:Bool)(w:World)(h5:0≤x)(h6:x<18446744073709551616):
  Calls Tryz.prog 154 #[.agg #[.int .u64 x,.int .i64 k,.int .i64 o,.int .i64 d,.int .i64 p,.int .i64 el,.int .i64 c,.bool db,.int .i64 pa,.int .u32 sg,.int .u32 lo,.bool false]] w fun e w'=>
   e=.returned (.agg #[.int .u64 x,.int .i64 k,.int .i64 o,.int .i64 d,.int .i64 p,.int .i64 el,.int .i64 c,.bool db,.int .i64 pa,.int .u32 (fld x 32 32),.int .u32 (fld x 2 30),.bool false])∧Below w.heap.size w w':=by
 go_enter Tryz.func154,Tryz.ntmps154
 go_wp2_with fail
 refine(unsigned32_dec w.heap.size 10 x lo 2 30 _ (by go_simp) (by go_simp) (by go_simp) (by go_simp) (by omega) (by omega) (by omega) (by omega) h5 h6).mono ?_
 rintro e w' ⟨rfl,rfl⟩
 go_wp2_with fail
 refine(unsigned32_dec w.heap.size 9 x sg 32 32 _ (by go_simp) (by go_simp) (by go_simp) (by go_simp) (by omega) (by omega) (by omega) (by omega) h5 h6).mono ?_
 rintro e w' ⟨rfl,rfl⟩
 go_wp2
 refine bodyPost_ret (v:=.agg #[.int .u64 x,.int .i64 k,.int .i64 o,.int .i64 d,.int .i64 p,.int .i64 el,.int .i64 c,.bool db,.int .i64 pa,.int .u32 (fld x 32 32),.int .u32 (fld x 2 30),.bool false]) (by simp [results,Tryz.results154,go_sem]) rfl ⟨rfl,?_⟩
 exact((Below.refl _ _).alloc (Nat.le_refl _) _).alloc (by simp) _
set_option maxHeartbeats 400000 in
theorem layout4_enc (x k o d p el c pa sg lo:Int)(w:World)(h5:0≤x)(h6:x<18446744073709551616)(db:Bool):
  Calls Tryz.prog 154 #[.agg #[.int .u64 x,.int .i64 k,.int .i64 o,.int .i64 d,.int .i64 p,.int .i64 el,.int .i64 c,.bool db,.int .i64 pa,.int .u32 sg,.int .u32 lo,.bool true]] w fun e w'=>
   e=.returned (.agg #[.int .u64 (ins (ins x 2 30 (IntKind.u64.wrap lo)) 32 32 (IntKind.u64.wrap sg)),.int .i64 k,.int .i64 o,.int .i64 d,.int .i64 p,.int .i64 el,.int .i64 c,.bool db,.int .i64 pa,.int .u32 sg,.int .u32 lo,.bool true])∧Below w.heap.size w w':=by
 go_enter Tryz.func154,Tryz.ntmps154
 go_wp2_with fail
 refine(unsigned32_enc w.heap.size 10 x lo 2 30 _ (by go_simp) (by go_simp) (by go_simp) (by go_simp) (by omega) (by omega) (by omega) h5 h6).mono ?_
 rintro e w' ⟨rfl,rfl⟩
 have b1:=ins_bd x 2 30 (IntKind.u64.wrap lo) (by omega) (by omega) (by omega) h6
 go_wp2_with fail
 refine(unsigned32_enc w.heap.size 9 (ins x 2 30 (IntKind.u64.wrap lo)) sg 32 32 _ (by go_simp) (by go_simp) (by go_simp) (by go_simp) (by omega) (by omega) (by omega) b1.1 b1.2).mono ?_
 rintro e w' ⟨rfl,rfl⟩
 have b2:=ins_bd (ins x 2 30 (IntKind.u64.wrap lo)) 32 32 (IntKind.u64.wrap sg) (by omega) (by omega) (by omega) b1.2
 go_wp2
 refine bodyPost_ret (v:=.agg #[.int .u64 (ins (ins x 2 30 (IntKind.u64.wrap lo)) 32 32 (IntKind.u64.wrap sg)),.int .i64 k,.int .i64 o,.int .i64 d,.int .i64 p,.int .i64 el,.int .i64 c,.bool db,.int .i64 pa,.int .u32 sg,.int .u32 lo,.bool true]) (by simp [results,Tryz.results154,go_sem]) rfl ⟨rfl,?_⟩
 repeat (refine bel_drew ?_)
 exact((Below.refl _ _).alloc (Nat.le_refl _) _).alloc (by simp) _
end Go.Proofs.YtbpmeppdjicmhaaGreatDoor
