/- The texts Ptr (what is wanted of them), one after the other. -/
import Derived.Test.YtfaflahfjgnphaaGreatDoorMg1
import Derived.WideMake
import Derived.MapKept
import Derived.Maps.Own
import Derived.StillTailTactics
namespace Go.Proofs.YtfaflahfjgnphaaGreatDoor
open Go.ChangeShapes Go.WideShapes Go.ChangeAt Go.RowKit
set_option linter.unusedVariables false
set_option linter.unusedSimpArgs false
set_option maxRecDepth 100000
theorem unsigned_dec (b j:Nat)(x y a n:Int)(w:World)(hx:w.cell? ⟨b,0,none⟩=some (.int .u64 x))(he:w.cell? ⟨b,11,none⟩=some (.bool false))(hy:w.cell? ⟨b,j,none⟩=some (.int .i64 y))(hf:w.frozen? ⟨b,j,none⟩=false)
  (h1:1≤n) (h2:0≤a) (h3:a+n≤64) (h4:n≤63) (h5:0≤x) (h6:x<18446744073709551616) :
  Calls Tryz.prog 104 #[.pointer (some ⟨b,0,none⟩),.int .i64 a,.int .i64 n,.pointer (some ⟨b,j,none⟩)] w fun e w'=>e=.returned (.tuple #[])∧w'=w.setCell ⟨b,j,none⟩ (.int .i64 (fld x a n)):=by
 have hb:=fld_bd x a n (by omega)
 have hl:=fld_lt63 x a n h4
 go_enter Tryz.func104,Tryz.ntmps104
 go_wp2_with (go_at_call 76;refine(Field_any _ _ _ _ h1 h2 h3 h5 h6).mono ?_;rintro e w' ⟨rfl,rfl⟩)
 go_end0
 exact⟨rfl,rfl⟩
theorem signed_dec (b j:Nat)(x y a n:Int)(w:World)(hx:w.cell? ⟨b,0,none⟩=some (.int .u64 x))(he:w.cell? ⟨b,11,none⟩=some (.bool false))(hy:w.cell? ⟨b,j,none⟩=some (.int .i64 y))(hf:w.frozen? ⟨b,j,none⟩=false)
  (h1:1≤n) (h2:0≤a) (h3:a+n≤64) (h5:0≤x) (h6:x<18446744073709551616) :
  Calls Tryz.prog 116 #[.pointer (some ⟨b,0,none⟩),.int .i64 a,.int .i64 n,.pointer (some ⟨b,j,none⟩)] w fun e w'=>e=.returned (.tuple #[])∧w'=w.setCell ⟨b,j,none⟩ (.int .i64 (sgn x a n)):=by
 have hm:=sgn_bd x a n h1 (by omega)
 go_enter Tryz.func116,Tryz.ntmps116
 go_wp2_with (go_at_call 126;refine(Signed_any _ _ _ _ h1 h2 h3 h5 h6).mono ?_;rintro e w' ⟨rfl,rfl⟩)
 go_end0
 exact⟨rfl,rfl⟩
theorem fld_lt32 (x a n:Int)(h:n≤32):fld x a n<4294967296:=by
 have:=fld_lt x a n
 have h2:=Nat.pow_le_pow_right (n:=2) (by decide) (show n.toNat≤32 by omega)
 have e:(2:Int) ^ n.toNat=((2 ^ n.toNat:Nat):Int):=by simp
 rw [e] at this
 omega
theorem unsigned32_dec (b j:Nat)(x y a n:Int)(w:World)(hx:w.cell? ⟨b,0,none⟩=some (.int .u64 x))(he:w.cell? ⟨b,11,none⟩=some (.bool false))(hy:w.cell? ⟨b,j,none⟩=some (.int .u32 y))(hf:w.frozen? ⟨b,j,none⟩=false)
  (h1:1≤n) (h2:0≤a) (h3:a+n≤64) (h4:n≤32) (h5:0≤x) (h6:x<18446744073709551616) :
  Calls Tryz.prog 120 #[.pointer (some ⟨b,0,none⟩),.int .i64 a,.int .i64 n,.pointer (some ⟨b,j,none⟩)] w fun e w'=>e=.returned (.tuple #[])∧w'=w.setCell ⟨b,j,none⟩ (.int .u32 (fld x a n)):=by
 have hb:=fld_bd x a n (by omega)
 have hl:=fld_lt32 x a n h4
 have HW:Hid (IntKind.u32.wrap (fld x a n)=fld x a n):=Lib.hid (by rw [IntKind.wrap_u32];omega)
 go_enter Tryz.func120,Tryz.ntmps120
 go_wp2_with (go_at_call 76;refine(Field_any _ _ _ _ h1 h2 h3 h5 h6).mono ?_;rintro e w' ⟨rfl,rfl⟩)
 go_end0
 exact⟨rfl,by first|rfl|rw [HW.out]⟩
theorem flag_dec (b j:Nat)(x a:Int)(y:Bool)(w:World)(hx:w.cell? ⟨b,0,none⟩=some (.int .u64 x))(he:w.cell? ⟨b,11,none⟩=some (.bool false))(hy:w.cell? ⟨b,j,none⟩=some (.bool y))(hf:w.frozen? ⟨b,j,none⟩=false)
  (h2:0≤a) (h3:a+1≤64) (h5:0≤x) (h6:x<18446744073709551616) :
  Calls Tryz.prog 119 #[.pointer (some ⟨b,0,none⟩),.int .i64 a,.pointer (some ⟨b,j,none⟩)] w fun e w'=>e=.returned (.tuple #[])∧w'=w.setCell ⟨b,j,none⟩ (.bool (fld x a 1==1)):=by
 go_enter Tryz.func119,Tryz.ntmps119
 go_wp2_with (go_at_call 76;refine(Field_any _ _ _ _ (by omega) h2 h3 h5 h6).mono ?_;rintro e w' ⟨rfl,rfl⟩)
 go_end0
 exact⟨rfl,rfl⟩
set_option maxHeartbeats 400000 in
theorem layout1_dec (x k o d p el c pa sg lo:Int)(db:Bool)(w:World)(h5:0≤x)(h6:x<18446744073709551616):
  Calls Tryz.prog 115 #[.agg #[.int .u64 x,.int .i64 k,.int .i64 o,.int .i64 d,.int .i64 p,.int .i64 el,.int .i64 c,.bool db,.int .i64 pa,.int .u32 sg,.int .u32 lo,.bool false]] w fun e w'=>
   e=.returned (.agg #[.int .u64 x,.int .i64 k,.int .i64 (sgn x 2 30),.int .i64 (fld x 32 16),.int .i64 (fld x 48 16),.int .i64 el,.int .i64 c,.bool db,.int .i64 pa,.int .u32 sg,.int .u32 lo,.bool false])∧Below w.heap.size w w':=by
 go_enter Tryz.func115,Tryz.ntmps115
 go_wp2_with fail
 refine(signed_dec w.heap.size 2 x o 2 30 _ (by go_simp) (by go_simp) (by go_simp) (by go_simp) (by omega) (by omega) (by omega) h5 h6).mono ?_
 rintro e w' ⟨rfl,rfl⟩
 go_wp2_with fail
 refine(unsigned_dec w.heap.size 3 x d 32 16 _ (by go_simp) (by go_simp) (by go_simp) (by go_simp) (by omega) (by omega) (by omega) (by omega) h5 h6).mono ?_
 rintro e w' ⟨rfl,rfl⟩
 go_wp2_with fail
 refine(unsigned_dec w.heap.size 4 x p 48 16 _ (by go_simp) (by go_simp) (by go_simp) (by go_simp) (by omega) (by omega) (by omega) (by omega) h5 h6).mono ?_
 rintro e w' ⟨rfl,rfl⟩
 go_wp2
 refine bodyPost_ret (v:=.agg #[.int .u64 x,.int .i64 k,.int .i64 (sgn x 2 30),.int .i64 (fld x 32 16),.int .i64 (fld x 48 16),.int .i64 el,.int .i64 c,.bool db,.int .i64 pa,.int .u32 sg,.int .u32 lo,.bool false]) (by simp [results,Tryz.results115,go_sem]) rfl ⟨rfl,?_⟩
 exact((Below.refl _ _).alloc (Nat.le_refl _) _).alloc (by simp) _
set_option maxHeartbeats 400000 in
theorem layout2_dec (x k o d p el c pa sg lo:Int)(db:Bool)(w:World)(h5:0≤x)(h6:x<18446744073709551616):
  Calls Tryz.prog 117 #[.agg #[.int .u64 x,.int .i64 k,.int .i64 o,.int .i64 d,.int .i64 p,.int .i64 el,.int .i64 c,.bool db,.int .i64 pa,.int .u32 sg,.int .u32 lo,.bool false]] w fun e w'=>
   e=.returned (.agg #[.int .u64 x,.int .i64 k,.int .i64 (sgn x 2 30),.int .i64 d,.int .i64 p,.int .i64 (fld x 32 3),.int .i64 (fld x 35 29),.bool db,.int .i64 pa,.int .u32 sg,.int .u32 lo,.bool false])∧Below w.heap.size w w':=by
 go_enter Tryz.func117,Tryz.ntmps117
 go_wp2_with fail
 refine(signed_dec w.heap.size 2 x o 2 30 _ (by go_simp) (by go_simp) (by go_simp) (by go_simp) (by omega) (by omega) (by omega) h5 h6).mono ?_
 rintro e w' ⟨rfl,rfl⟩
 go_wp2_with fail
 refine(unsigned_dec w.heap.size 5 x el 32 3 _ (by go_simp) (by go_simp) (by go_simp) (by go_simp) (by omega) (by omega) (by omega) (by omega) h5 h6).mono ?_
 rintro e w' ⟨rfl,rfl⟩
 go_wp2_with fail
 refine(unsigned_dec w.heap.size 6 x c 35 29 _ (by go_simp) (by go_simp) (by go_simp) (by go_simp) (by omega) (by omega) (by omega) (by omega) h5 h6).mono ?_
 rintro e w' ⟨rfl,rfl⟩
 go_wp2
 refine bodyPost_ret (v:=.agg #[.int .u64 x,.int .i64 k,.int .i64 (sgn x 2 30),.int .i64 d,.int .i64 p,.int .i64 (fld x 32 3),.int .i64 (fld x 35 29),.bool db,.int .i64 pa,.int .u32 sg,.int .u32 lo,.bool false]) (by simp [results,Tryz.results117,go_sem]) rfl ⟨rfl,?_⟩
 exact((Below.refl _ _).alloc (Nat.le_refl _) _).alloc (by simp) _
set_option maxHeartbeats 400000 in
theorem layout3_dec (x k o d p el c pa sg lo:Int)(db:Bool)(w:World)(h5:0≤x)(h6:x<18446744073709551616):
  Calls Tryz.prog 118 #[.agg #[.int .u64 x,.int .i64 k,.int .i64 o,.int .i64 d,.int .i64 p,.int .i64 el,.int .i64 c,.bool db,.int .i64 pa,.int .u32 sg,.int .u32 lo,.bool false]] w fun e w'=>
   e=.returned (.agg #[.int .u64 x,.int .i64 k,.int .i64 o,.int .i64 d,.int .i64 p,.int .i64 el,.int .i64 c,.bool (fld x 2 1==1),.int .i64 (fld x 3 29),.int .u32 (fld x 32 32),.int .u32 lo,.bool false])∧Below w.heap.size w w':=by
 have HB:=Lib.hid (rfl:(fld x 2 1==1)=(fld x 2 1==1))
 go_enter Tryz.func118,Tryz.ntmps118
 go_wp2_with fail
 refine(flag_dec w.heap.size 7 x 2 db _ (by go_simp) (by go_simp) (by go_simp) (by go_simp) (by omega) (by omega) h5 h6).mono ?_
 rintro e w' ⟨rfl,rfl⟩
 go_wp2_with fail
 refine(unsigned_dec w.heap.size 8 x pa 3 29 _ (by go_simp) (by go_simp) (by go_simp) (by go_simp) (by omega) (by omega) (by omega) (by omega) h5 h6).mono ?_
 rintro e w' ⟨rfl,rfl⟩
 go_wp2_with fail
 refine(unsigned32_dec w.heap.size 9 x sg 32 32 _ (by go_simp) (by go_simp) (by go_simp) (by go_simp) (by omega) (by omega) (by omega) (by omega) h5 h6).mono ?_
 rintro e w' ⟨rfl,rfl⟩
 go_wp2
 refine bodyPost_ret (v:=.agg #[.int .u64 x,.int .i64 k,.int .i64 o,.int .i64 d,.int .i64 p,.int .i64 el,.int .i64 c,.bool (fld x 2 1==1),.int .i64 (fld x 3 29),.int .u32 (fld x 32 32),.int .u32 lo,.bool false]) (by simp [results,Tryz.results118,go_sem]) rfl ⟨rfl,?_⟩
 exact((Below.refl _ _).alloc (Nat.le_refl _) _).alloc (by simp) _
set_option maxHeartbeats 400000 in
theorem layout4_dec (x k o d p el c pa sg lo:Int)(db:Bool)(w:World)(h5:0≤x)(h6:x<18446744073709551616):
  Calls Tryz.prog 121 #[.agg #[.int .u64 x,.int .i64 k,.int .i64 o,.int .i64 d,.int .i64 p,.int .i64 el,.int .i64 c,.bool db,.int .i64 pa,.int .u32 sg,.int .u32 lo,.bool false]] w fun e w'=>
   e=.returned (.agg #[.int .u64 x,.int .i64 k,.int .i64 o,.int .i64 d,.int .i64 p,.int .i64 el,.int .i64 c,.bool db,.int .i64 pa,.int .u32 (fld x 32 32),.int .u32 (fld x 2 30),.bool false])∧Below w.heap.size w w':=by
 go_enter Tryz.func121,Tryz.ntmps121
 go_wp2_with fail
 refine(unsigned32_dec w.heap.size 10 x lo 2 30 _ (by go_simp) (by go_simp) (by go_simp) (by go_simp) (by omega) (by omega) (by omega) (by omega) h5 h6).mono ?_
 rintro e w' ⟨rfl,rfl⟩
 go_wp2_with fail
 refine(unsigned32_dec w.heap.size 9 x sg 32 32 _ (by go_simp) (by go_simp) (by go_simp) (by go_simp) (by omega) (by omega) (by omega) (by omega) h5 h6).mono ?_
 rintro e w' ⟨rfl,rfl⟩
 go_wp2
 refine bodyPost_ret (v:=.agg #[.int .u64 x,.int .i64 k,.int .i64 o,.int .i64 d,.int .i64 p,.int .i64 el,.int .i64 c,.bool db,.int .i64 pa,.int .u32 (fld x 32 32),.int .u32 (fld x 2 30),.bool false]) (by simp [results,Tryz.results121,go_sem]) rfl ⟨rfl,?_⟩
 exact((Below.refl _ _).alloc (Nat.le_refl _) _).alloc (by simp) _
end Go.Proofs.YtfaflahfjgnphaaGreatDoor
