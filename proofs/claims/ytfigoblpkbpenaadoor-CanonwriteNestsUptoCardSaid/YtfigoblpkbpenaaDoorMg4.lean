/- The texts Ref06, Blk (what is wanted of them), one after the other. -/
import Derived.Test.YtfigoblpkbpenaaDoorMg1
import Derived.Test.YtfigoblpkbpenaaDoorMg2
import Derived.Test.YtfigoblpkbpenaaDoorMg3
/- What the reference functions of layer 6 do, each by a contract. -/
namespace Go.Proofs.YtfigoblpkbpenaaDoor
open Go.ChangeShapes Go.WideShapes Go.ChangeAt Go.RowKit
set_option linter.unusedVariables false
set_option linter.unusedSimpArgs false
set_option maxRecDepth 100000

/-- bits of an element -/
def bitsI (e : Int) : Int := if e = 1 then 1 else if e = 2 then 8 else if e = 3 then 16 else if e = 4 then 32 else if e = 5 ∨ e = 6 then 64 else 0
def wordsI (e c : Int) : Int := if e = 7 then c + 1 else (bitsI e * c + 63) / 64
def bytesI (e c : Int) : Int := (bitsI e * c + 7) / 8
theorem bitsI_cases (e : Int) : bitsI e = 0 ∨ bitsI e = 1 ∨ bitsI e = 8 ∨ bitsI e = 16 ∨ bitsI e = 32 ∨ bitsI e = 64 := by
  unfold bitsI
  repeat' split
  all_goals simp
theorem bitsI_mul (e c : Int) (h0 : 0 ≤ c) : 0 ≤ bitsI e * c ∧ bitsI e * c ≤ 64 * c := by
  rcases bitsI_cases e with h | h | h | h | h | h <;> rw [h] <;> omega

theorem RefBits_any (e : Int) (w : World) : Calls Tryd.prog 33 #[.int .i64 e] w fun r w' => r = .returned (.int .i64 (bitsI e)) ∧ w = w' := by
  have HB : Hid (bitsI e = bitsI e) := Lib.hid rfl
  by_cases h1 : e = 1
  · subst h1; go_enter Tryd.func33, Tryd.ntmps33; go_wp2; go_ret; exact ⟨rfl, rfl⟩
  by_cases h2 : e = 2
  · subst h2; go_enter Tryd.func33, Tryd.ntmps33; go_wp2; go_ret; exact ⟨rfl, rfl⟩
  by_cases h3 : e = 3
  · subst h3; go_enter Tryd.func33, Tryd.ntmps33; go_wp2; go_ret; exact ⟨rfl, rfl⟩
  by_cases h4 : e = 4
  · subst h4; go_enter Tryd.func33, Tryd.ntmps33; go_wp2; go_ret; exact ⟨rfl, rfl⟩
  by_cases h5 : e = 5
  · subst h5; go_enter Tryd.func33, Tryd.ntmps33; go_wp2; go_ret; exact ⟨rfl, rfl⟩
  by_cases h6 : e = 6
  · subst h6; go_enter Tryd.func33, Tryd.ntmps33; go_wp2; go_ret; exact ⟨rfl, rfl⟩
  have HZ : Hid (bitsI e = 0) := Lib.hid (by simp [bitsI, h1, h2, h3, h4, h5, h6])
  have k1 : (e == 1) = false := by rw [beq_eq_false_iff_ne]; exact h1
  have k2 : (e == 2) = false := by rw [beq_eq_false_iff_ne]; exact h2
  have k3 : (e == 3) = false := by rw [beq_eq_false_iff_ne]; exact h3
  have k4 : (e == 4) = false := by rw [beq_eq_false_iff_ne]; exact h4
  have k5 : (e == 5) = false := by rw [beq_eq_false_iff_ne]; exact h5
  have k6 : (e == 6) = false := by rw [beq_eq_false_iff_ne]; exact h6
  clear h1 h2 h3 h4 h5 h6
  go_enter Tryd.func33, Tryd.ntmps33
  go_wp2
  go_ret
  exact ⟨by rw [HZ.out]; rfl, rfl⟩

theorem RefWords6_any (e c : Int) (w : World) (h0 : 0 ≤ c) (h1 : c ≤ 536870911) : Calls Tryd.prog 52 #[.int .i64 e, .int .i64 c] w fun r w' => r = .returned (.int .i64 (wordsI e c)) ∧ w = w' := by
  by_cases h7 : e = 7
  · subst h7
    go_enter Tryd.func52, Tryd.ntmps52
    go_wp2
    go_ret
    exact ⟨rfl, rfl⟩
  · have k7 : (e == 7) = false := by rw [beq_eq_false_iff_ne]; exact h7
    have HW : Hid (wordsI e c = (bitsI e * c + 63) / 64) := Lib.hid (by simp [wordsI, h7])
    have hm := bitsI_mul e c h0
    clear h7
    by_cases hr : bitsI e * c / 64 * 64 < bitsI e * c
    · have HE : Hid ((bitsI e * c + 63) / 64 = bitsI e * c / 64 + 1) := Lib.hid (by omega)
      go_enter Tryd.func52, Tryd.ntmps52
      go_wp2_with (go_at_call 33; refine (RefBits_any _ _).mono ?_; rintro r w' ⟨rfl, rfl⟩)
      go_ret
      exact ⟨by rw [HW.out, HE.out]; rfl, rfl⟩
    · have HE : Hid ((bitsI e * c + 63) / 64 = bitsI e * c / 64) := Lib.hid (by omega)
      go_enter Tryd.func52, Tryd.ntmps52
      go_wp2_with (go_at_call 33; refine (RefBits_any _ _).mono ?_; rintro r w' ⟨rfl, rfl⟩)
      go_ret
      exact ⟨by rw [HW.out, HE.out]; rfl, rfl⟩

theorem RefBytes6_any (e c : Int) (w : World) (h0 : 0 ≤ c) (h1 : c ≤ 536870911) : Calls Tryd.prog 24 #[.int .i64 e, .int .i64 c] w fun r w' => r = .returned (.int .i64 (bytesI e c)) ∧ w = w' := by
  have hm := bitsI_mul e c h0
  have HW : Hid (bytesI e c = (bitsI e * c + 7) / 8) := Lib.hid rfl
  by_cases hr : bitsI e * c / 8 * 8 < bitsI e * c
  · have HE : Hid ((bitsI e * c + 7) / 8 = bitsI e * c / 8 + 1) := Lib.hid (by omega)
    go_enter Tryd.func24, Tryd.ntmps24
    go_wp2_with (go_at_call 33; refine (RefBits_any _ _).mono ?_; rintro r w' ⟨rfl, rfl⟩)
    go_ret
    exact ⟨by rw [HW.out, HE.out]; rfl, rfl⟩
  · have HE : Hid ((bitsI e * c + 7) / 8 = bitsI e * c / 8) := Lib.hid (by omega)
    go_enter Tryd.func24, Tryd.ntmps24
    go_wp2_with (go_at_call 33; refine (RefBits_any _ _).mono ?_; rintro r w' ⟨rfl, rfl⟩)
    go_ret
    exact ⟨by rw [HW.out, HE.out]; rfl, rfl⟩

/-! ## Trim -/
/-- byte i of the trimmed bytes -/
def trimAt (b : List Int) (e c : Int) (i : Nat) : Int := if e = 1 ∧ c < 8 * (i : Int) + 8 then zat b i % p2 (c - 8 * i) else zat b i
def trimL (b : List Int) (e c : Int) : List Int := (List.range (bytesI e c).toNat).map (trimAt b e c)
theorem trimL_length (b : List Int) (e c : Int) : (trimL b e c).length = (bytesI e c).toNat := by simp [trimL]
theorem trimL_zat (b : List Int) (e c : Int) (i : Nat) (h : i < (bytesI e c).toNat) : zat (trimL b e c) i = trimAt b e c i := by
  simp [trimL, zat, List.getD_eq_getElem?_getD, h]
theorem trimAt_bd {b : List Int} (hb : Bts b) (e c : Int) (i : Nat) : 0 ≤ trimAt b e c i ∧ trimAt b e c i < 256 := by
  have hz := hb.at i
  unfold trimAt
  split
  · have hp := p2_pos (c - 8 * i)
    have h1 := Int.emod_nonneg (zat b i) (show p2 (c - 8 * (i : Int)) ≠ 0 by omega)
    have h2 : zat b i % p2 (c - 8 * (i : Int)) ≤ zat b i := by
      rw [Int.emod_def]
      have := Int.mul_nonneg (show 0 ≤ p2 (c - 8 * (i : Int)) by omega) (Int.ediv_nonneg hz.1 (show 0 ≤ p2 (c - 8 * (i : Int)) by omega))
      omega
    omega
  · exact hz
theorem p2_7 (q : Nat) (h : q ≤ 7) : p2 q ≤ 128 := by
  have h2 := Nat.pow_le_pow_right (n := 2) (by decide) h
  unfold p2
  rw [Int.toNat_natCast]
  have e : (2 : Int) ^ q = ((2 ^ q : Nat) : Int) := by simp
  rw [e]; omega

attribute [local irreducible] p2

set_option maxHeartbeats 4000000 in
set_option maxRecDepth 100000 in
theorem RefTrim_any (A : Option Addr) (cp : Nat) (b : List Int) (e c : Int) (w : World) (hr : Ri w .u8 A b) (hb : Bts b) (hm : b.length ≤ 140737488355327) (h0 : 0 ≤ c) (h1 : c ≤ 536870911) (hl : bytesI e c ≤ b.length) :
    Calls Tryd.prog 25 #[.int .i64 e, .int .i64 c, .slice A b.length cp] w fun r w' => ∃ v, r = .returned v ∧ Got w' w.heap.size 5 .u8 v (trimL b e c) ∧ Below w.heap.size w w' := by
  obtain ⟨i0, hi, hz0, hz1, hz2⟩ := info_parts int8_info
  have hm2 := bitsI_mul e c h0
  have hB : 0 ≤ bytesI e c := by unfold bytesI; omega
  have HBI : Hid (bytesI e c = (bitsI e * c + 7) / 8) := Lib.hid rfl
  have HLEN := Lib.hid (trimL_length b e c)
  have HZ := Lib.hid (trimL_zat b e c)
  have HTB := Lib.hid (fun i => trimAt_bd hb e c i)
  have Hr := Lib.hid hr
  have Hb := Lib.hid hb
  obtain ⟨n, hn⟩ := Int.eq_ofNat_of_zero_le hB
  have HN := Lib.hid hn
  have hnl : n ≤ b.length := by omega
  clear hr hb hl hn hB
  go_enter Tryd.func25, Tryd.ntmps25
  go_wp2
  go_loopw [7, 8] (fun v j wr => ∃ k : Nat, k ≤ n ∧ j = .int .i64 k ∧ Got wr w.heap.size 5 .u8 v ((trimL b e c).take k) ∧ Below w.heap.size w wr) (fun _ j _ => n - (intOf j).toNat)
  case atStart => exact ⟨0, by omega, rfl, Got.empty _ _ _ _, Below.refl _ _⟩
  case round =>
    obtain ⟨k, hk, rfl, hgk, hbk⟩ := hrel
    by_cases hlt : k < n
    · have hr := Hr.out.below hbk (Nat.le_refl _)
      obtain ⟨g, off, rfl, hc3⟩ := hr.at (i := k) (by omega)
      have hcell := hc3 k (by omega)
      have hz := Hb.out.at k
      have hk2 : (k : Int) < (b.length : Int) := by omega
      have hkn : (k : Int) < (n : Int) := by omega
      have hlen : ((trimL b e c).take k).length = k := by rw [List.length_take, HLEN.out, HN.out]; omega
      have hnb : n ≤ 140737488355327 := by omega
      have HL := Lib.hid hlen
      have HT : Hid ((trimL b e c).take (k + 1) = (trimL b e c).take k ++ [trimAt b e c k]) := Lib.hid (by
        rw [take_succ_zat _ _ (by rw [HLEN.out, HN.out]; omega), HZ.out k (by rw [HN.out]; omega)])
      have hsz := hbk.size
      have HB := Lib.hid hbk
      have ht := HTB.out k
      clear hc3 hr hbk hlen
      by_cases hc : e = 1 ∧ c < 8 * (k : Int) + 8
      · obtain ⟨rfl, hc2⟩ := hc
        have hkeep : 0 ≤ c - 8 * (k : Int) := by
          have h3 := HN.out
          rw [HBI.out] at h3
          have h4 : bitsI 1 = 1 := rfl
          rw [h4] at h3
          omega
        obtain ⟨K, hK⟩ := Int.eq_ofNat_of_zero_le hkeep
        have hK7 : K ≤ 7 := by omega
        have HK := Lib.hid hK
        have HA : Hid (trimAt b 1 c k = zat b k % p2 K) := Lib.hid (by unfold trimAt; rw [if_pos ⟨rfl, hc2⟩, hK])
        rw [HA.out] at HT ht
        have hcK : c = 8 * (k : Int) + K := by omega
        clear hK hkeep
        subst hcK
        go_wp2_with fail
        refine (RefBytes6_any _ _ _ h0 h1).mono ?_
        rintro r w' ⟨rfl, rfl⟩
        rw [HN.out]
        go_wp2
        have HGK := Lib.hid hgk
        clear hgk
        go_loop [11, 12] (fun m j => ∃ q : Nat, q ≤ K ∧ j = .int .i64 q ∧ m = .int .i64 (p2 q)) (fun _ j => K - (intOf j).toNat)
        case atStart => exact ⟨0, by omega, rfl, by unfold p2; rfl⟩
        case round =>
          obtain ⟨q, hq, rfl, rfl⟩ := hrel
          have hp1 := p2_pos q
          by_cases hqk : q < K
          · have hq2 : (q : Int) < 8 * (k : Int) + K - 8 * k := by omega
            have hp2 := p2_7 q (by omega)
            have HS := Lib.hid (p2_succ q)
            go_wp2
            go_round
            case rel => exact ⟨q + 1, by omega, by go_num, by rw [← HS.out]; go_num⟩
            case measure => simp [intOf]; omega
          · have hq2 : ¬ (q : Int) < 8 * (k : Int) + K - 8 * k := by omega
            obtain rfl : q = K := by omega
            have hp2 := p2_7 q (by omega)
            go_wp2_with (at_builtin; refine wpList_app1 rfl (.tmp 49) (.tmp 51) 22 rfl Tryd.underlying22 hi hz0 hz1 hz2 rfl HGK.out rfl (by rw [HL.out]; unfold maxLen; omega) (by rw [HL.out]; omega) hsz ?_; intro v1 w1 hg1 hb1)
            go_roundw
            case rel => exact ⟨k + 1, by omega, by go_num, by rw [HT.out]; exact hg1, HB.out.trans hb1⟩
            case measure => simp [intOf]; omega
      · have HA : Hid (trimAt b e c k = zat b k) := Lib.hid (by unfold trimAt; rw [if_neg hc])
        rw [HA.out] at HT ht
        by_cases he : e = 1
        · have hc2 : ¬ c < 8 * (k : Int) + 8 := fun h => hc ⟨he, h⟩
          subst he
          clear hc
          go_wp2_with fail
          refine (RefBytes6_any _ _ _ h0 h1).mono ?_
          rintro r w' ⟨rfl, rfl⟩
          rw [HN.out]
          go_wp2_with (at_builtin; refine wpList_app1 rfl (.tmp 49) (.tmp 51) 22 rfl Tryd.underlying22 hi hz0 hz1 hz2 rfl hgk rfl (by rw [HL.out]; unfold maxLen; omega) (by rw [HL.out]; omega) hsz ?_; intro v1 w1 hg1 hb1)
          go_roundw
          case rel => exact ⟨k + 1, by omega, by go_num, by rw [HT.out]; exact hg1, HB.out.trans hb1⟩
          case measure => simp [intOf]; omega
        · have he2 : (e == 1) = false := by rw [beq_eq_false_iff_ne]; exact he
          clear hc he
          go_wp2_with fail
          refine (RefBytes6_any _ _ _ h0 h1).mono ?_
          rintro r w' ⟨rfl, rfl⟩
          rw [HN.out]
          go_wp2_with (at_builtin; refine wpList_app1 rfl (.tmp 49) (.tmp 51) 22 rfl Tryd.underlying22 hi hz0 hz1 hz2 rfl hgk rfl (by rw [HL.out]; unfold maxLen; omega) (by rw [HL.out]; omega) hsz ?_; intro v1 w1 hg1 hb1)
          go_roundw
          case rel => exact ⟨k + 1, by omega, by go_num, by rw [HT.out]; exact hg1, HB.out.trans hb1⟩
          case measure => simp [intOf]; omega
    · obtain rfl : k = n := by omega
      go_wp2_with fail
      refine (RefBytes6_any _ _ _ h0 h1).mono ?_
      rintro r w' ⟨rfl, rfl⟩
      rw [HN.out]
      go_wp2
      go_ret
      exact ⟨_, rfl, hgk.cast rfl (by rw [List.take_of_length_le (by rw [HLEN.out, HN.out]; omega)]), hbk⟩
end Go.Proofs.YtfigoblpkbpenaaDoor

/- Blocks of plain cells that are known whole, kept through stores, allocations and calls; a world that is put behind a name. -/
namespace Go.Proofs.YtfigoblpkbpenaaDoor
open Go.ChangeShapes Go.WideShapes Go.ChangeAt Go.RowKit
set_option linter.unusedVariables false
set_option linter.unusedSimpArgs false
set_option maxRecDepth 100000

/-- the block b lies there, none of its cells is frozen, and its cells are cs -/
structure Blk (W : World) (b : Nat) (cs : Array Value) : Prop where
  cell : ∀ o, W.cell? ⟨b, o, none⟩ = cs[o]?
  free : ∀ o, W.frozen? ⟨b, o, none⟩ = false
  lt : b < W.heap.size

section
variable {W W' : World} {b : Nat} {cs : Array Value}

theorem Blk.fresh (W : World) (cs : Array Value) (T : TypeId) : Blk (W.alloc (.cells cs T)) W.heap.size cs :=
  ⟨blk_new W cs T, fun o => by simp, by simp⟩

theorem Blk.new {T : TypeId} (hb : W.heap.size = b) : Blk (W.alloc (.cells cs T)) b cs := hb ▸ Blk.fresh W cs T

theorem Blk.alloc (h : Blk W b cs) (o : Obj) : Blk (W.alloc o) b cs := by
  have hb : Below W.heap.size W (W.alloc o) := (Below.refl _ _).alloc (Nat.le_refl _) o
  have hz := h.lt
  refine ⟨blk_alloc h.cell (by omega) _, fun j => ?_, ?_⟩
  · rw [hb.frozen (p := ⟨b, j, none⟩) (by show b < _; omega)]
    exact h.free j
  · simp; omega

theorem Blk.below (h : Blk W b cs) (hb : Below W.heap.size W W') : Blk W' b cs := by
  have hz := h.lt
  have h2 := hb.size
  refine ⟨blk_below h.cell hb (by omega), fun j => ?_, by omega⟩
  rw [hb.frozen (p := ⟨b, j, none⟩) (by show b < _; omega)]
  exact h.free j

theorem Blk.drewN (h : Blk W b cs) (n : Nat) : Blk (W.drewN n) b cs := ⟨h.cell, h.free, h.lt⟩
theorem Blk.drew (h : Blk W b cs) : Blk W.drew b cs := ⟨h.cell, h.free, h.lt⟩
theorem Blk.belowN (h : Blk W b cs) {N : Nat} (hb : Below N W W') (hN : b < N) : Blk W' b cs := by
  have h2 := hb.size
  have hz := h.lt
  refine ⟨fun j => (hb.cell (p := ⟨b, j, none⟩) hN).trans (h.cell j), fun j => (hb.frozen (p := ⟨b, j, none⟩) hN).trans (h.free j), by omega⟩

theorem blk_set' (x : ∀ o, W.cell? ⟨b, o, none⟩ = cs[o]?) (k : Nat) (hk : k < cs.size) (v : Value) : ∀ o, (W.setCell ⟨b, k, none⟩ v).cell? ⟨b, o, none⟩ = (cs.setIfInBounds k v)[o]? := by
  intro o
  by_cases e : k = o
  · subst e
    rw [World.cell?_setCell_same' _ _ _ (by rw [x k]; simp [hk])]
    simp [hk]
  · rw [World.cell?_setCell_other W ⟨b, k, none⟩ ⟨b, o, none⟩ v (by intro h; injection h with _ h2; exact e h2), x o]
    simp [Array.getElem?_setIfInBounds_ne e]

theorem Blk.set (h : Blk W b cs) (k : Nat) (hk : k < cs.size) (v : Value) : Blk (W.setCell ⟨b, k, none⟩ v) b (cs.setIfInBounds k v) :=
  ⟨blk_set' h.cell k hk v, fun o => by have := h.free o; simpa using this, by have := h.lt; simpa using this⟩

theorem Blk.other (h : Blk W b cs) {p : Addr} (hp : p.block ≠ b) (v : Value) : Blk (W.setCell p v) b cs :=
  ⟨fun o => by rw [World.cell?_setCell_other W p ⟨b, o, none⟩ v (by intro e; rw [e] at hp; exact hp rfl)]; exact h.cell o, fun o => by have := h.free o; simpa using this, by have := h.lt; simpa using this⟩
end

/-- a world at a call is put behind a name; only what F says stays known of it -/
theorem abs_world {P : Program} {f : FuncId} {args : Array Value} {V : World} {Q : Ending → World → Prop} (F : World → Prop) (hF : F V) (h : ∀ W, F W → Calls P f args W Q) : Calls P f args V Q := h V hF
theorem abs_post {P : Program} {fn : Func} {Q : Ending → World → Prop} {e : Exit} {a : Act} {V : World} (F : World → Prop) (hF : F V) (h : ∀ W, F W → bodyPost P fn Q e a W) : bodyPost P fn Q e a V := h V hF
end Go.Proofs.YtfigoblpkbpenaaDoor
