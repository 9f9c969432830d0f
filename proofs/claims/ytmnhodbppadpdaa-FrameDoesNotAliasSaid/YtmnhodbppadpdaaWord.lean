/- What the functions of package word do, each by a contract. -/
import Derived.Test.YtmnhodbppadpdaaRows
import Derived.Test.YtmnhodbppadpdaaMem
import Derived.WalkKit
import Derived.ProofKit
import Derived.OpenShut
import Derived.Deep.DeepFit
import Derived.RegionTactic
import Derived.Deep.QuietTactic
import Derived.BigQuiet
namespace Go.Proofs.Ytmnhodbppadpdaa
open Go.ChangeShapes Go.WideShapes Go.ChangeAt Go.RowKit
set_option linter.unusedVariables false

theorem lowBits_any (n : Int) (w : World) (h1 : 1 ≤ n) (h2 : n ≤ 64) :
    Calls Try.prog 41 #[.int .i64 n] w fun e w' => e = .returned (.int .u64 (18446744073709551615 / 2 ^ (64 - n).toNat)) ∧ w = w' := by
  go_enter Try.func41, Try.ntmps41
  go_wp2
  go_ret
  exact ⟨rfl, rfl⟩

theorem Field_any (x a n : Int) (w : World) (h1 : 1 ≤ n) (h2 : 0 ≤ a) (h3 : a + n ≤ 64) (h5 : 0 ≤ x) (h6 : x < 18446744073709551616) :
    Calls Try.prog 37 #[.int .u64 x, .int .i64 a, .int .i64 n] w fun e w' => e = .returned (.int .u64 (fld x a n)) ∧ w = w' := by
  have HF := Lib.hid (fld_go x a n (by omega) (by omega) h5 h6)
  go_enter Try.func37, Try.ntmps37
  go_wp2_with (go_at_call 41; refine (lowBits_any _ _ (by omega) (by omega)).mono ?_; rintro e w' ⟨rfl, rfl⟩)
  go_ret
  exact ⟨congrArg (fun z => Ending.returned (.int .u64 z)) HF.out, rfl⟩

theorem Insert_any (x a n v : Int) (w : World) (h1 : 1 ≤ n) (h2 : 0 ≤ a) (h3 : a + n ≤ 64) (h5 : 0 ≤ x) (h6 : x < 18446744073709551616) (h7 : 0 ≤ v) (h8 : v < 18446744073709551616) :
    Calls Try.prog 40 #[.int .u64 x, .int .i64 a, .int .i64 n, .int .u64 v] w fun e w' => e = .returned (.int .u64 (ins x a n v)) ∧ w = w' := by
  have HF := Lib.hid (ins_go x a n v (by omega) h2 h3 h5 h6 h7 h8)
  go_enter Try.func40, Try.ntmps40
  go_wp2_with (go_at_call 41; refine (lowBits_any _ _ (by omega) (by omega)).mono ?_; rintro e w' ⟨rfl, rfl⟩)
  go_ret
  exact ⟨congrArg (fun z => Ending.returned (.int .u64 z)) HF.out, rfl⟩

theorem decode_any (b off len cap : Nat) (z : Nat → Int) (w : World) (h8 : 8 ≤ len) (hm : len ≤ 9223372036854775807) (hz : ∀ i, i < 8 → 0 ≤ z i ∧ z i < 256)
    (hc : ∀ i, i < 8 → w.cell? ⟨b, off + i, none⟩ = some (.int .u8 (z i))) :
    Calls Try.prog 39 #[.slice (some ⟨b, off, none⟩) len cap] w fun e w' => e = .returned (.int .u64 (leF z 8)) ∧ w = w' := by
  have Hc := Lib.hid hc
  clear hc
  have Hz := Lib.hid hz
  clear hz
  go_enter Try.func39, Try.ntmps39
  go_wp2
  go_loop [3, 5] (fun v i => ∃ k : Nat, k ≤ 8 ∧ i = .int .i64 k ∧ v = .int .u64 (leF z k)) (fun _ i => 8 - (intOf i).toNat)
  case atStart => exact ⟨0, by omega, rfl, rfl⟩
  case round =>
    obtain ⟨k, hk, rfl, rfl⟩ := hrel
    by_cases hlt : k < 8
    · have hcell := Hc.out k hlt
      have hl : (k : Int) < (len : Int) := by omega
      have hzk := Hz.out k hlt
      have hz1 := hzk.1
      have hz2 := hzk.2
      have HS := Lib.hid (leF_step z k hlt Hz.out)
      go_wp2
      go_round
      case rel => exact ⟨k + 1, by omega, by go_num, by rw [HS.out]⟩
      case measure => simp [intOf]; omega
    · obtain rfl : k = 8 := by omega
      go_wp2
      go_ret
      exact ⟨rfl, rfl⟩

/-- is there a word i of the bytes? -/
def hasW (b : List Int) (i : Int) : Bool := decide (0 ≤ i ∧ i < (b.length / 8 : Nat))
def getW (b : List Int) (i : Int) : Int := if hasW b i then wordAt b i.toNat else 0

theorem Get_any (A : Option Addr) (c : Nat) (b : List Int) (i : Int) (w : World) (hr : Ri w .u8 A b) (hb : Bts b) (hm : b.length ≤ 140737488355328) (hc : b.length ≤ c) (hc2 : c ≤ 9223372036854775807)
    (h1 : -9223372036854775808 ≤ i) (h2 : i ≤ 9223372036854775807) :
    Calls Try.prog 36 #[.slice A b.length c, .int .i64 i] w fun e w' => e = .returned (.tuple #[.int .u64 (getW b i), .bool (hasW b i)]) ∧ w = w' := by
  have Hr := Lib.hid hr
  clear hr
  have Hb := Lib.hid hb
  clear hb
  by_cases h0 : i < 0
  · have hh : hasW b i = false := by unfold hasW; simp; omega
    have Hf := Lib.hid hh
    clear hh
    go_enter Try.func36, Try.ntmps36
    go_wp2
    go_ret2
    exact ⟨by simp [getW, Hf.out], rfl⟩
  · by_cases hl : i < (b.length / 8 : Nat)
    · have hh : hasW b i = true := by unfold hasW; simp; omega
      have Hf := Lib.hid hh
      clear hh
      obtain ⟨k, rfl⟩ := Int.eq_ofNat_of_zero_le (by omega : 0 ≤ i)
      have hk : k < b.length / 8 := by omega
      obtain ⟨g, off, rfl, hcell⟩ := Hr.out.at (i := 8 * k) (by omega)
      have HD := Lib.hid (decode_any g (off + 8 * k) (b.length - 8 * k) (c - 8 * k) (fun j => zat b (8 * k + j)) w (by omega) (by omega) (fun j _ => Hb.out.at _)
        (fun j hj => by rw [Nat.add_assoc]; exact hcell (8 * k + j) (by omega)))
      clear hcell
      go_enter Try.func36, Try.ntmps36
      go_wp2_with (go_at_call 39; refine HD.out.mono ?_; rintro e w' ⟨rfl, rfl⟩)
      go_ret2
      refine ⟨?_, rfl⟩
      have e1 : getW b (k : Int) = wordAt b k := by simp [getW, Hf.out]
      have e2 : leF (fun j => zat b (8 * k + j)) 8 = wordAt b k := rfl
      rw [Hf.out, e1, e2]
      rfl
    · have hh : hasW b i = false := by unfold hasW; simp; omega
      have Hf := Lib.hid hh
      clear hh
      go_enter Try.func36, Try.ntmps36
      go_wp2
      go_ret2
      exact ⟨by simp [getW, Hf.out], rfl⟩

theorem encode_any (base g n off len cap : Nat) (zs : List Int) (x : Int) (w : World) (h8 : 8 ≤ len) (hm : len ≤ 9223372036854775807) (hz : off + 8 ≤ zs.length) (hn : n = zs.length)
    (cap0 : Nat) (hg : Got w base 5 .u8 (.slice (some ⟨g, 0, none⟩) n cap0) zs) :
    Calls Try.prog 35 #[.slice (some ⟨g, off, none⟩) len cap, .int .u64 x] w fun e w' => e = .returned (.tuple #[]) ∧
      Got w' base 5 .u8 (.slice (some ⟨g, 0, none⟩) n cap0) (splice zs off (bytes8 x)) ∧ Below base w w' := by
  have Hn := Lib.hid hn
  clear hn
  have hbase := hg.base_le
  go_enter Try.func35, Try.ntmps35
  go_wp2
  go_loopw [5] (fun i wr => ∃ k : Nat, k ≤ 8 ∧ i = .int .i64 k ∧ Got wr base 5 .u8 (.slice (some ⟨g, 0, none⟩) n cap0) (splice zs off ((bytes8 x).take k)) ∧ Below base w wr) (fun i _ => 8 - (intOf i).toNat)
  case atStart => exact ⟨0, by omega, rfl, by rw [List.take_zero, splice_nil]; exact hg, Below.refl _ _⟩
  case round =>
    obtain ⟨k, hk, rfl, hgk, hbk⟩ := hrel
    have l8 := bytes8_length x
    by_cases hlt : k < 8
    · have hlk : off + ((bytes8 x).take k).length ≤ zs.length := by simp; omega
      have HL := Lib.hid (splice_length hlk)
      have hn2 : n = (splice zs off ((bytes8 x).take k)).length := by rw [HL.out, Hn.out]
      have hgk' : Got wr base 5 .u8 (.slice (some ⟨g, 0, none⟩) (splice zs off ((bytes8 x).take k)).length cap0) (splice zs off ((bytes8 x).take k)) := by rw [← hn2]; exact hgk
      have hcell := hgk'.cell (off + k) (by rw [HL.out]; omega)
      have hfree := hgk'.free (off + k)
      have HG := Lib.hid hgk'
      have HB := Lib.hid hbk
      have HN := Lib.hid hn2
      clear hgk hgk' hbk hn2
      have hl : (k : Int) < (len : Int) := by omega
      go_wp2
      go_roundw
      case rel =>
        have e := splice_step (zs := zs) (ys := bytes8 x) (o := off) (k := k) (by omega) (by omega)
        rw [bytes8_zat x k hlt] at e
        rw [byteOf_go]
        refine ⟨k + 1, by omega, by go_num, ?_, HB.out.setCell (by show base ≤ g; omega) _⟩
        exact (HG.out.put (off + k) (byteOf x k)).cast (by rw [← HN.out]) e
      case measure => simp [intOf]; omega
    · obtain rfl : k = 8 := by omega
      go_wp2
      go_end0
      exact ⟨rfl, hgk.cast rfl (by rw [List.take_of_length_le (by omega)]), hbk⟩

theorem int8_info : (Try.prog.info? 5).map (fun i => (i.zero, i.size, i.bytes)) = some (some (.int .u8 0), 1, 1) := by kernel_rfl
theorem int64_info : (Try.prog.info? 43).map (fun i => (i.zero, i.size, i.bytes)) = some (some (.int .u64 0), 1, 8) := by kernel_rfl

theorem Words_no (A : Option Addr) (c n : Nat) (w : World) (hm : n ≤ 140737488355328) (h8 : n % 8 ≠ 0) :
    Calls Try.prog 32 #[.slice A n c] w fun e w' => e = .returned (.tuple #[.slice none 0 0, .bool false]) ∧ w = w' := by
  have h8' : ((n : Int) % 8 == 0) = false := by simp; omega
  have h8'' : ((n : Int) % 8 != 0) = true := by simp; omega
  go_enter Try.func32, Try.ntmps32
  go_wp2
  go_ret2
  exact ⟨rfl, rfl⟩

theorem Words_yes (A : Option Addr) (c : Nat) (b : List Int) (w : World) (hr : Ri w .u8 A b) (hb : Bts b) (hm : b.length ≤ 140737488355328) (hc : b.length ≤ c) (hc2 : c ≤ 9223372036854775807) (h8 : b.length % 8 = 0) :
    Calls Try.prog 32 #[.slice A b.length c] w fun e w' => ∃ v, e = .returned (.tuple #[v, .bool true]) ∧ Got w' w.heap.size 43 .u64 v (wordsOf b) ∧ Below w.heap.size w w' := by
  obtain ⟨i0, hi, hz0, hz1, hz2⟩ := info_parts int64_info
  have h8' : ((b.length : Int) % 8 != 0) = false := by simp; omega
  have h8'' : ((b.length : Int) % 8 == 0) = true := by simp; omega
  have Hr := Lib.hid hr
  have Hb := Lib.hid hb
  clear hr hb
  go_enter Try.func32, Try.ntmps32
  go_wp2_with (at_make; refine wpList_make_full _ rfl _ _ 41 rfl w.heap.size 43 i0 (.int .u64 0) 1 Try.underlying41 hi hz0 hz1 .i64 .i64 _ _ (b.length / 8) rfl rfl (by omega) (by omega) (by rw [hz2]; omega) (by unfold maxLen; omega) (Nat.le_refl _) ?_; intro w0 hown0 hgrow0)
  have hb0 : Below w.heap.size w w0 := (Below.refl _ _).grown hgrow0 (Nat.le_refl _) (by simp)
  have hg0 := got_made hown0
  have hlz : b.length / 8 = (List.replicate (b.length / 8) (0 : Int)).length := by simp
  go_loopw [16] (fun i wr => ∃ k : Nat, k ≤ b.length / 8 ∧ i = .int .i64 k ∧ Got wr w.heap.size 43 .u64 (.slice (some ⟨w.heap.size, 0, none⟩) (b.length / 8) (b.length / 8)) (splice (List.replicate (b.length / 8) 0) 0 ((wordsOf b).take k)) ∧ Below w.heap.size w wr) (fun i _ => b.length / 8 - (intOf i).toNat)
  case atStart => exact ⟨0, by omega, rfl, by rw [List.take_zero, splice_nil]; exact hg0, hb0⟩
  case round =>
    obtain ⟨k, hk, rfl, hgk, hbk⟩ := hrel
    clear hg0 hb0 hown0 hgrow0
    by_cases hlt : k < b.length / 8
    · have hlk : 0 + ((wordsOf b).take k).length ≤ (List.replicate (b.length / 8) (0 : Int)).length := by rw [List.length_take, wordsOf_length]; simp; omega
      have HL := Lib.hid (splice_length hlk)
      have hn2 : b.length / 8 = (splice (List.replicate (b.length / 8) 0) 0 ((wordsOf b).take k)).length := by rw [HL.out, ← hlz]
      have hgk' := hgk.cast (congrArg (fun n => Value.slice (some ⟨w.heap.size, 0, none⟩) n (b.length / 8)) hn2) rfl
      have hcell := hgk'.cell k (by rw [← hn2]; exact hlt)
      have hfree := hgk'.free k
      have HG := Lib.hid hgk'
      have HB := Lib.hid hbk
      have HN := Lib.hid hn2
      have HZ := Lib.hid hlz
      clear hgk hgk' hn2 hlz
      have hr := Hr.out.below hbk (Nat.le_refl _)
      obtain ⟨g, off, rfl, hc3⟩ := hr.at (i := 8 * k) (by omega)
      have HD := Lib.hid (decode_any g (off + 8 * k) (b.length - 8 * k) (c - 8 * k) (fun j => zat b (8 * k + j)) wr (by omega) (by omega) (fun j _ => Hb.out.at _)
        (fun j hj => by rw [Nat.add_assoc]; exact hc3 (8 * k + j) (by omega)))
      clear hc3 hr hbk hlk
      have hl : (k : Int) < ((b.length / 8 : Nat) : Int) := by omega
      go_wp2_with (go_at_call 39; refine HD.out.mono ?_; rintro e w' ⟨rfl, rfl⟩)
      go_roundw
      case rel =>
        refine ⟨k + 1, by omega, by go_num, ?_, HB.out.setCell (Nat.le_refl _) _⟩
        exact (HG.out.put k (wordAt b k)).cast (by rw [← HN.out]) (splice_words HZ.out (by rw [← HZ.out]; exact hlt))
      case measure => simp [intOf]; omega
    · obtain rfl : k = b.length / 8 := by omega
      have HZ := Lib.hid hlz
      clear hlz
      go_wp2
      go_ret2
      exact ⟨_, rfl, hgk.cast rfl (by rw [List.take_of_length_le (by rw [wordsOf_length]; omega), splice_all (by rw [wordsOf_length]; exact HZ.out)]), hbk⟩

theorem Bytes_any (A : Option Addr) (c : Nat) (l : List Int) (w : World) (hr : Ri w .u64 A l) (hb : Wds l) (hm : l.length ≤ 17592186044416) :
    Calls Try.prog 25 #[.slice A l.length c] w fun e w' => ∃ v, e = .returned v ∧ Got w' w.heap.size 5 .u8 v (bytesOf l) ∧ Below w.heap.size w w' := by
  obtain ⟨i0, hi, hz0, hz1, hz2⟩ := info_parts int8_info
  have Hr := Lib.hid hr
  have Hb := Lib.hid hb
  clear hr hb
  go_enter Try.func25, Try.ntmps25
  go_wp2_with (at_make; refine wpList_make_full _ rfl _ _ 22 rfl w.heap.size 5 i0 (.int .u8 0) 1 Try.underlying22 hi hz0 hz1 .i64 .i64 _ _ (8 * l.length) rfl rfl (by omega) (by omega) (by rw [hz2]; omega) (by unfold maxLen; omega) (Nat.le_refl _) ?_; intro w0 hown0 hgrow0)
  have hb0 : Below w.heap.size w w0 := (Below.refl _ _).grown hgrow0 (Nat.le_refl _) (by simp)
  have hg0 := got_made hown0
  have hlz : (List.replicate (8 * l.length) (0 : Int)).length = 8 * l.length := by simp
  go_loopw [12] (fun i wr => ∃ k : Nat, k ≤ l.length ∧ i = .int .i64 k ∧ Got wr w.heap.size 5 .u8 (.slice (some ⟨w.heap.size, 0, none⟩) (8 * l.length) (8 * l.length)) (splice (List.replicate (8 * l.length) 0) 0 (bytesOf (l.take k))) ∧ Below w.heap.size w wr) (fun i _ => l.length - (intOf i).toNat)
  case atStart => exact ⟨0, by omega, rfl, by rw [List.take_zero]; exact hg0.cast rfl (splice_nil _ _).symm, hb0⟩
  case round =>
    obtain ⟨k, hk, rfl, hgk, hbk⟩ := hrel
    clear hg0 hb0 hown0 hgrow0
    by_cases hlt : k < l.length
    · have hlk : 0 + (bytesOf (l.take k)).length ≤ (List.replicate (8 * l.length) (0 : Int)).length := by rw [bytesOf_length, List.length_take, hlz]; omega
      have HL := Lib.hid (splice_length hlk)
      have hr := Hr.out.below hbk (Nat.le_refl _)
      obtain ⟨g, off, rfl, hc3⟩ := hr.at (i := k) hlt
      have hcell := hc3 k hlt
      have hzk := Hb.out.at k
      have hl : (k : Int) < (l.length : Int) := by omega
      have HE := Lib.hid (encode_any w.heap.size w.heap.size (8 * l.length) (8 * k) (8 * l.length - 8 * k) (8 * l.length - 8 * k) _ (zat l k) wr (by omega) (by omega)
        (by rw [HL.out, hlz]; omega) (by rw [HL.out, hlz]) (8 * l.length) hgk)
      have HB := Lib.hid hbk
      have HZ := Lib.hid hlz
      clear hgk hbk hc3 hr hlz hlk
      go_wp2_with (go_at_call 35; refine HE.out.mono ?_; rintro e w' ⟨rfl, hg1, hb1⟩)
      go_roundw
      case rel =>
        refine ⟨k + 1, by omega, by go_num, hg1.cast rfl (splice_bytes (by rw [HZ.out]; omega) hlt), HB.out.trans hb1⟩
      case measure => simp [intOf]; omega
    · obtain rfl : k = l.length := by omega
      go_wp2
      go_ret
      exact ⟨_, rfl, hgk.cast rfl (by rw [List.take_of_length_le (by omega), splice_all (by rw [bytesOf_length, hlz])]), hbk⟩
end Go.Proofs.Ytmnhodbppadpdaa
