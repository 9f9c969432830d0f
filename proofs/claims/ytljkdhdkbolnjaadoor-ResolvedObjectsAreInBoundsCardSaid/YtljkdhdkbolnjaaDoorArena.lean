/- What the functions of package arena do, each by a contract (by the code at 3e41864; the laws rest on these statements alone). -/
import Derived.Test.YtljkdhdkbolnjaaDoorRef05
import Derived.Test.YtljkdhdkbolnjaaDoorMsgOwn
import Derived.Laws.CopyOwn
namespace Go.Proofs.YtljkdhdkbolnjaaDoor
open Go.ChangeShapes Go.WideShapes Go.ChangeAt Go.RowKit
set_option linter.unusedVariables false
set_option linter.unusedSimpArgs false

def sliceX (ls : List (List Int)) (s a n : Int) : List Int := if inB ls s a n then sliceL ls s a n else []

theorem inB_nat {ls : List (List Int)} {s a n : Int} (h : inB ls s a n = true) : ∃ S K N : Nat, s = S ∧ a = K ∧ n = N ∧ S < ls.length ∧ K + N ≤ (seg ls S).length := by
  obtain ⟨h1, h2, h3, h4, h5, h6⟩ := of_decide_eq_true h
  obtain ⟨S, rfl⟩ := Int.eq_ofNat_of_zero_le h1
  obtain ⟨K, rfl⟩ := Int.eq_ofNat_of_zero_le h3
  obtain ⟨N, rfl⟩ := Int.eq_ofNat_of_zero_le h4
  rw [Int.toNat_natCast] at h5 h6
  exact ⟨S, K, N, rfl, rfl, rfl, by omega, by omega⟩

/-- segments of a length that memory can hold -/
def Fits (ls : List (List Int)) : Prop := ∀ j, (seg ls j).length ≤ 17592186044415


/-- a slice of the call's own that fills its block -/
theorem got_block {w : World} {base : Nat} {E : TypeId} {k : IntKind} {g n : Nat} {zs : List Int} (h : Got w base E k (.slice (some ⟨g, 0, none⟩) n n) zs) (hl : zs.length = n) : w.heap[g]? = some (.cells (zs.map (Value.int k)).toArray E (0, 0)) := by
  obtain ⟨h1, h2⟩ := h
  rcases h2 with ⟨h3, _⟩ | ⟨g', cap, cur, h3, h4, h5, h6, h7, h8, h9⟩
  · injection h3 with e; cases e
  · injection h3 with e1 e2 e3
    injection e1 with e1
    injection e1 with e1
    subst e1
    subst e3
    rw [h5, ← h9, List.take_of_length_le (by rw [Array.length_toList]; omega)]

theorem got_of_block {w : World} {base : Nat} {E : TypeId} {k : IntKind} {g n : Nat} {zs : List Int} (h : w.heap[g]? = some (.cells (zs.map (Value.int k)).toArray E (0, 0))) (hb : base ≤ g) (hl : zs.length = n) (hm : n ≤ maxLen) : Got w base E k (.slice (some ⟨g, 0, none⟩) n n) zs := by
  subst hl
  refine ⟨by simp, .inr ⟨g, zs.length, _, rfl, hb, h, Nat.le_refl _, hm, by simp, ?_⟩⟩
  rw [List.take_of_length_le (by simp)]

theorem splice_whole {α : Type} {L cs : List α} (h : cs.length = L.length) : Go.splice L 0 cs = cs := by
  simp [Go.splice, h]

theorem one_cells (k : IntKind) (zs : List Int) : ∀ v ∈ zs.map (Value.int k), v.oneCell' = true := by
  intro v hv
  obtain ⟨z, _, rfl⟩ := List.mem_map.1 hv
  rfl

theorem copy_src {w : World} {k : IntKind} {A : Option Addr} {zs : List Int} {dp : Option Addr} {g : Nat} (h : Ri w k A zs) (hd : dp = some ⟨g, 0, none⟩) : 0 < (zs.map (Value.int k)).length → dp = some ⟨g, 0, none⟩ ∧ ∃ ad, A = some ad ∧ ∀ j v, (zs.map (Value.int k))[j]? = some v → w.cell? (ad.add j) = some v := by
  intro h0
  rw [List.length_map] at h0
  obtain ⟨b, off, rfl, hw⟩ := h.at h0
  refine ⟨hd, _, rfl, fun j v hv => ?_⟩
  rw [List.getElem?_map] at hv
  cases hz : zs[j]? with
  | none => rw [hz] at hv; cases hv
  | some z =>
    rw [hz] at hv
    have hj : j < zs.length := by
      rcases Nat.lt_or_ge j zs.length with hlt | hge
      · exact hlt
      · rw [List.getElem?_eq_none hge] at hz; cases hz
    have e : v = Value.int k z := (Option.some.inj hv).symm
    have := hw j hj
    simp only [zat, List.getD_eq_getElem?_getD, hz, Option.getD_some] at this
    rw [e, ← this]
    unfold Addr.add
    by_cases h1 : j = 0
    · subst h1; rfl
    · rw [if_neg h1]

theorem AWithin_no (A : Option Addr) (c : Nat) (ls : List (List Int)) (s a n : Int) (w : World) (hs : Sg w A ls) (hm : ls.length ≤ 140737488355328)
    (hs0 : -9223372036854775808 ≤ s) (hs1 : s ≤ 9223372036854775807) (ha0 : -9223372036854775808 ≤ a) (ha1 : a ≤ 9223372036854775807) (hn0 : -9223372036854775808 ≤ n) (hn1 : n ≤ 9223372036854775807) (hh : inB ls s a n = false) :
    Calls Tryd.prog 65 #[.slice A ls.length c, .int .i64 s, .int .i64 a, .int .i64 n] w fun e w' => e = .returned (.tuple #[.slice none 0 0, .bool false]) ∧ w = w' := by
  have Hs := Lib.hid hs
  have HH := Lib.hid hh
  clear hs hh
  by_cases h1 : s < 0
  · go_enter Tryd.func65, Tryd.ntmps65
    go_wp2
    go_ret2
    exact ⟨rfl, rfl⟩
  by_cases h2 : (ls.length : Int) ≤ s
  · go_enter Tryd.func65, Tryd.ntmps65
    go_wp2
    go_ret2
    exact ⟨rfl, rfl⟩
  obtain ⟨k, rfl⟩ := Int.eq_ofNat_of_zero_le (by omega : 0 ≤ s)
  obtain ⟨b, off, A', c', rfl, hcell, hri, -, hc1, hc2⟩ := Hs.out.one (i := k) (by omega)
  clear hri
  have hk2 : (k : Int) < (ls.length : Int) := by omega
  by_cases h3 : a < 0
  · go_enter Tryd.func65, Tryd.ntmps65
    go_wp2
    go_ret2
    exact ⟨rfl, rfl⟩
  by_cases h4 : n < 0
  · go_enter Tryd.func65, Tryd.ntmps65
    go_wp2
    go_ret2
    exact ⟨rfl, rfl⟩
  have h5 : ((seg ls k).length : Int) - a < n := by
    have h := HH.out
    unfold inB at h
    rw [decide_eq_false_iff_not, Int.toNat_natCast] at h
    omega
  go_enter Tryd.func65, Tryd.ntmps65
  go_wp2
  go_ret2
  exact ⟨rfl, rfl⟩

theorem AWithin_yes (A : Option Addr) (c : Nat) (ls : List (List Int)) (S K n : Nat) (w : World) (hs : Sg w A ls) (hm : ls.length ≤ 140737488355328) (hS : S < ls.length) (hK : K + n ≤ (seg ls S).length) (hh : inB ls S K n = true) :
    Calls Tryd.prog 65 #[.slice A ls.length c, .int .i64 S, .int .i64 K, .int .i64 n] w fun e w' => ∃ A' c', e = .returned (.tuple #[.slice A' n c', .bool true]) ∧ w = w' ∧ Ri w .u64 A' (sliceL ls S K n) ∧ n ≤ c' ∧ c' ≤ 9223372036854775807 := by
  have HL0 := sliceL_length hh
  have HL : Hid ((sliceL ls S K n).length = n) := Lib.hid (by omega)
  have HZ : Hid (sliceL ls S K n = ((seg ls S).drop K).take n) := Lib.hid (by
    unfold sliceL
    rw [Int.toNat_natCast, Int.toNat_natCast, Int.toNat_natCast])
  have Hs := Lib.hid hs
  clear hs hh HL0
  obtain ⟨b, off, A', c', rfl, hcell, hri, hno, hc1, hc2⟩ := Hs.out.one hS
  have HR := Lib.hid hri
  clear hri
  have hS1 : (S : Int) < (ls.length : Int) := by omega
  have h5 : ¬ ((seg ls S).length : Int) - K < n := by omega
  by_cases h0 : n = 0
  · subst h0
    have H0 : Hid (sliceL ls S K 0 = []) := Lib.hid (List.eq_nil_of_length_eq_zero HL.out)
    clear HZ HL
    by_cases hcap : c' = K
    · clear hno
      go_enter Tryd.func65, Tryd.ntmps65
      go_wp2
      go_ret2
      refine ⟨_, _, rfl, rfl, ?_, by omega⟩
      rw [H0.out]
      exact Ri.nil _ _ _
    · cases A' with
      | none => exact absurd (hno rfl) (by omega)
      | some p =>
        clear hno
        go_enter Tryd.func65, Tryd.ntmps65
        go_wp2
        go_ret2
        refine ⟨_, _, rfl, rfl, ?_, by omega⟩
        rw [H0.out]
        exact Ri.nil _ _ _
  · obtain ⟨g, o, rfl, -⟩ := HR.out.at (i := 0) (by omega)
    clear hno
    have hcap : c' ≠ K := by omega
    go_enter Tryd.func65, Tryd.ntmps65
    go_wp2
    go_ret2
    refine ⟨_, _, rfl, rfl, ?_, by omega, by omega⟩
    rw [HZ.out]
    exact (HR.out.drop rfl).take n
theorem AInF_any (A : Option Addr) (c : Nat) (ls : List (List Int)) (s a n : Int) (w : World) (hs : Sg w A ls) (hm : ls.length ≤ 140737488355328)
    (hs0 : -9223372036854775808 ≤ s) (hs1 : s ≤ 9223372036854775807) (ha0 : -9223372036854775808 ≤ a) (ha1 : a ≤ 9223372036854775807) (hn0 : -9223372036854775808 ≤ n) (hn1 : n ≤ 9223372036854775807) :
    Calls Tryd.prog 63 #[.slice A ls.length c, .int .i64 s, .int .i64 a, .int .i64 n] w fun e w' => e = .returned (.bool (inB ls s a n)) ∧ w = w' := by
  cases hi : inB ls s a n with
  | true =>
    obtain ⟨S, K, N, rfl, rfl, rfl, hS, hK⟩ := inB_nat hi
    have HI := Lib.hid (AWithin_yes A c ls S K N w hs hm hS hK hi)
    clear hs hi
    go_enter Tryd.func63, Tryd.ntmps63
    go_wp2_with fail
    refine HI.out.mono ?_
    rintro e w' ⟨A', c', rfl, rfl, -, -, -⟩
    go_wp2
    go_ret
    exact ⟨rfl, rfl⟩
  | false =>
    have HI := Lib.hid (AWithin_no A c ls s a n w hs hm hs0 hs1 ha0 ha1 hn0 hn1 hi)
    clear hs hi
    go_enter Tryd.func63, Tryd.ntmps63
    go_wp2_with fail
    refine HI.out.mono ?_
    rintro e w' ⟨rfl, rfl⟩
    go_wp2
    go_ret
    exact ⟨rfl, rfl⟩

theorem AIn_any (A : Option Addr) (c : Nat) (ls : List (List Int)) (s a n : Int) (w : World) (hs : Sg w A ls) (hm : ls.length ≤ 140737488355328) (hf : Fits ls)
    (hs0 : -9223372036854775808 ≤ s) (hs1 : s ≤ 9223372036854775807) (ha0 : -9223372036854775808 ≤ a) (ha1 : a ≤ 9223372036854775807) (hn0 : -9223372036854775808 ≤ n) (hn1 : n ≤ 9223372036854775807) :
    Calls Tryd.prog 63 #[.slice A ls.length c, .int .i64 s, .int .i64 a, .int .i64 n] w fun e w' => e = .returned (.bool (inB ls s a n)) ∧ w = w' :=
  AInF_any A c ls s a n w hs hm hs0 hs1 ha0 ha1 hn0 hn1

theorem hasB_inB (ls : List (List Int)) (s a : Int) : hasB ls s a = inB ls s a 1 := by
  unfold hasB inB
  rw [decide_eq_decide]
  constructor <;> intro h <;> omega

theorem AWordF_any (A : Option Addr) (c : Nat) (ls : List (List Int)) (s a : Int) (w : World) (hs : Sg w A ls) (hm : ls.length ≤ 140737488355328)
    (hs0 : -9223372036854775808 ≤ s) (hs1 : s ≤ 9223372036854775807) (ha0 : -9223372036854775808 ≤ a) (ha1 : a ≤ 9223372036854775807) :
    Calls Tryd.prog 49 #[.slice A ls.length c, .int .i64 s, .int .i64 a] w fun e w' => e = .returned (.tuple #[.int .u64 (wordV ls s a), .bool (hasB ls s a)]) ∧ w = w' := by
  cases hi : inB ls s a 1 with
  | true =>
    have hB : hasB ls s a = true := (hasB_inB ls s a).trans hi
    obtain ⟨S, K, N, rfl, rfl, h1, hS, hK⟩ := inB_nat hi
    obtain rfl : N = 1 := by omega
    have HI := Lib.hid (AWithin_yes A c ls S K 1 w hs hm hS hK hi)
    have HV : Hid (wordV ls S K = zat (sliceL ls S K (1 : Nat)) 0) := Lib.hid (by
      unfold wordV sliceL
      rw [if_pos hB, Int.toNat_natCast, Int.toNat_natCast, Int.toNat_natCast, zat_take _ _ _ (by omega), zat_drop]
      rfl)
    have HL : Hid ((sliceL ls S K (1 : Nat)).length = 1) := Lib.hid (by have h := sliceL_length hi; exact Int.ofNat.inj h)
    have HB := Lib.hid hB
    clear hs hi hB h1
    generalize wordV ls S K = x at *
    go_enter Tryd.func49, Tryd.ntmps49
    go_wp2_with fail
    refine HI.out.mono ?_
    rintro e w' ⟨A', c', rfl, rfl, hri, h2, h3⟩
    obtain ⟨g, o, rfl, hw⟩ := hri.at (i := 0) (by rw [HL.out]; omega)
    have hword := hw 0 (by rw [HL.out]; omega)
    rw [← HV.out, Nat.add_zero] at hword
    clear hw hri
    go_wp2
    go_ret2
    exact ⟨by rw [HB.out]; rfl, rfl⟩
  | false =>
    have hB : hasB ls s a = false := (hasB_inB ls s a).trans hi
    have HV : Hid (wordV ls s a = 0) := Lib.hid (by unfold wordV; rw [if_neg (by rw [hB]; exact Bool.false_ne_true)])
    have HB := Lib.hid hB
    have HI := Lib.hid (AWithin_no A c ls s a 1 w hs hm hs0 hs1 ha0 ha1 (by omega) (by omega) hi)
    clear hs hi hB
    go_enter Tryd.func49, Tryd.ntmps49
    go_wp2_with fail
    refine HI.out.mono ?_
    rintro e w' ⟨rfl, rfl⟩
    go_wp2
    go_ret2
    exact ⟨by rw [HV.out, HB.out]; rfl, rfl⟩

theorem AWord_any (A : Option Addr) (c : Nat) (ls : List (List Int)) (s a : Int) (w : World) (hs : Sg w A ls) (hm : ls.length ≤ 140737488355328) (hf : Fits ls)
    (hs0 : -9223372036854775808 ≤ s) (hs1 : s ≤ 9223372036854775807) (ha0 : -9223372036854775808 ≤ a) (ha1 : a ≤ 9223372036854775807) :
    Calls Tryd.prog 49 #[.slice A ls.length c, .int .i64 s, .int .i64 a] w fun e w' => e = .returned (.tuple #[.int .u64 (wordV ls s a), .bool (hasB ls s a)]) ∧ w = w' :=
  AWordF_any A c ls s a w hs hm hs0 hs1 ha0 ha1

end Go.Proofs.YtljkdhdkbolnjaaDoor
