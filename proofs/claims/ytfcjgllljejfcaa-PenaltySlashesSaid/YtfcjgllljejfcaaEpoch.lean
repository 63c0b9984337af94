/- Epochs: isEpoch, MaxEpoch, Later and Max (stage 2's, without the clock). -/
import Derived.Test.YtfcjgllljejfcaaWords
import Derived.WalkLawsBesides
namespace Go.Proofs.Ytfcjgllljejfcaa
open Go.RowKit
set_option linter.unusedVariables false

theorem isEpoch_yes (n : Int) (w : World) (h0 : 0 ≤ n) (h1 : n ≤ 1099511627776) :
    Calls Try.prog 52 #[.int .i64 n] w fun e w' => e = .returned (.bool true) ∧ w = w' := by
  go_enter Try.func52, Try.ntmps52
  go_wp2
  go_ret
  exact ⟨rfl, rfl⟩
theorem isEpoch_no (n : Int) (w : World) (h : n < 0 ∨ 1099511627776 < n) :
    Calls Try.prog 52 #[.int .i64 n] w fun e w' => e = .returned (.bool false) ∧ w = w' := by
  rcases h with h | h
  · have hd : decide (0 ≤ n) = false := by simpa using h
    go_enter Try.func52, Try.ntmps52
    go_wp2
    go_ret
    exact ⟨rfl, rfl⟩
  · have hd : decide (0 ≤ n) = true := by simp; omega
    have hd : decide (n ≤ 1099511627776) = false := by simpa using h
    go_enter Try.func52, Try.ntmps52
    go_wp2
    go_ret
    exact ⟨rfl, rfl⟩
theorem maxEpoch_any (w : World) : Calls Try.prog 48 #[] w fun e w' => e = .returned (.int .i64 1099511627776) ∧ w = w' := by
  go_enter Try.func48, Try.ntmps48
  go_wp2
  go_ret
  exact ⟨rfl, rfl⟩

/-- The sum of an epoch and the first k numbers, if it is an epoch all the way. -/
def laterTo (e : Int) (z : List Int) : Nat → Option Int
  | 0 => if 0 ≤ e ∧ e ≤ 1099511627776 then some e else none
  | k + 1 => match laterTo e z k with
    | none => none
    | some s => if 0 ≤ z.getD k 0 ∧ z.getD k 0 ≤ 1099511627776 - s then some (s + z.getD k 0) else none
theorem laterTo_none {e : Int} {z : List Int} {k : Nat} (h : laterTo e z k = none) : ∀ d, laterTo e z (k + d) = none
  | 0 => h
  | d + 1 => by rw [← Nat.add_assoc]; simp only [laterTo, laterTo_none h d]
theorem laterTo_bd {e : Int} {z : List Int} : ∀ {k : Nat} {s : Int}, laterTo e z k = some s → 0 ≤ s ∧ s ≤ 1099511627776
  | 0, s, h => by simp only [laterTo] at h; split at h <;> simp at h; omega
  | k + 1, s, h => by
    simp only [laterTo] at h
    split at h
    · simp at h
    · rename_i s' hs
      have := laterTo_bd hs
      split at h
      · have := Option.some.inj h
        omega
      · cases h
theorem laterTo_step {e : Int} {z : List Int} {k : Nat} {s : Int} (h : laterTo e z k = some s) (h0 : 0 ≤ z.getD k 0) (h1 : z.getD k 0 ≤ 1099511627776 - s) : laterTo e z (k + 1) = some (s + z.getD k 0) := by
  simp only [laterTo, h]; rw [if_pos ⟨h0, h1⟩]
theorem laterTo_stop {e : Int} {z : List Int} {k : Nat} {s : Int} (h : laterTo e z k = some s) (h0 : ¬ (0 ≤ z.getD k 0 ∧ z.getD k 0 ≤ 1099511627776 - s)) : laterTo e z (k + 1) = none := by
  simp only [laterTo, h]; rw [if_neg h0]
/-- What Later answers. -/
def laterIs (o : Option Int) : Value := match o with | none => .tuple #[.int .i64 0, .bool false] | some s => .tuple #[.int .i64 s, .bool true]

theorem later_out (e : Int) (a : Option Addr) (len cap : Nat) (w : World) (h : e < 0 ∨ 1099511627776 < e) :
    Calls Try.prog 42 #[.int .i64 e, .slice a len cap] w fun e w' => e = .returned (laterIs none) ∧ w = w' := by
  have H := Lib.hid (isEpoch_no e w h)
  clear h
  go_enter Try.func42, Try.ntmps42
  go_wp2_with fail
  refine H.out.mono ?_
  rintro e w' ⟨rfl, rfl⟩
  go_wp2_with fail
  go_ret2
  exact ⟨rfl, rfl⟩

theorem later_any (e : Int) (a : Option Addr) (len cap : Nat) (z : List Int) (w : World) (h0 : 0 ≤ e) (h1 : e ≤ 1099511627776) (hlen : len ≤ 9223372036854775807)
    (hz : ∀ i, i < len → -9223372036854775808 ≤ z.getD i 0 ∧ z.getD i 0 ≤ 9223372036854775807)
    (hc : 0 < len → ∃ b off, a = some ⟨b, off, none⟩ ∧ ∀ i, i < len → w.cell? ⟨b, off + i, none⟩ = some (.int .i64 (z.getD i 0))) :
    Calls Try.prog 42 #[.int .i64 e, .slice a len cap] w fun o w' => o = .returned (laterIs (laterTo e z len)) ∧ w = w' := by
  have HC := Lib.hid hc
  have HZ := Lib.hid hz
  have H := Lib.hid (isEpoch_yes e w h0 h1)
  have HS := Lib.hid (show laterTo e z 0 = some e from if_pos ⟨h0, h1⟩)
  clear hc hz
  go_enter Try.func42, Try.ntmps42
  go_wp2_with fail
  refine H.out.mono ?_
  rintro e w' ⟨rfl, rfl⟩
  go_wp2_with fail
  go_loop [6, 15] (fun s6 s15 => ∃ (k : Nat) (s : Int), k ≤ len ∧ s15 = .int .i64 k ∧ s6 = .int .i64 s ∧ Hid (laterTo e z k = some s)) (fun _ s15 => len - (intOf s15).toNat)
  case atStart => exact ⟨0, e, by omega, rfl, rfl, HS⟩
  case round =>
    obtain ⟨k, s, hk, rfl, rfl, HT⟩ := hrel
    obtain ⟨s0, s1⟩ := laterTo_bd HT.out
    by_cases hlt : k < len
    · obtain ⟨b, off, rfl, hall⟩ := HC.out (by omega)
      have hcell := hall k hlt
      clear hall
      obtain ⟨y0, y1⟩ := HZ.out k hlt
      by_cases hy : 0 ≤ z.getD k 0
      · by_cases hs : z.getD k 0 ≤ 1099511627776 - s
        · have HN := Lib.hid (laterTo_step HT.out hy hs)
          generalize z.getD k 0 = y at *
          go_wp2
          go_round
          case rel => exact ⟨k + 1, s + y, by omega, by go_num, rfl, HN⟩
          case measure => simp [intOf]; omega
        · have HN := Lib.hid (laterTo_none (laterTo_stop HT.out (by omega)) (len - (k + 1)))
          rw [show k + 1 + (len - (k + 1)) = len by omega] at HN
          generalize z.getD k 0 = y at *
          go_wp2
          go_ret2
          exact ⟨by rw [HN.out]; rfl, rfl⟩
      · have HN := Lib.hid (laterTo_none (laterTo_stop HT.out (by omega)) (len - (k + 1)))
        rw [show k + 1 + (len - (k + 1)) = len by omega] at HN
        generalize z.getD k 0 = y at *
        go_wp2
        go_ret2
        exact ⟨by rw [HN.out]; rfl, rfl⟩
    · obtain rfl : k = len := by omega
      clear hlt
      have hlt : ¬ k < k := by omega
      go_wp2
      go_ret2
      exact ⟨by rw [HT.out]; rfl, rfl⟩

theorem refLater_out (e : Int) (a : Option Addr) (len cap : Nat) (w : World) (h : e < 0 ∨ 1099511627776 < e) :
    Calls Try.prog 32 #[.int .i64 e, .slice a len cap] w fun e w' => e = .returned (laterIs none) ∧ w = w' := by
  rcases h with h | h
  · go_enter Try.func32, Try.ntmps32
    go_wp2_with fail
    go_ret2
    exact ⟨rfl, rfl⟩
  · have h0 : 0 ≤ e := by omega
    go_enter Try.func32, Try.ntmps32
    go_wp2_with (go_at_call 48; refine (maxEpoch_any _).mono ?_; rintro e w' ⟨rfl, rfl⟩)
    go_ret2
    exact ⟨rfl, rfl⟩

theorem refLater_any (e : Int) (a : Option Addr) (len cap : Nat) (z : List Int) (w : World) (h0 : 0 ≤ e) (h1 : e ≤ 1099511627776) (hlen : len ≤ 9223372036854775807)
    (hz : ∀ i, i < len → -9223372036854775808 ≤ z.getD i 0 ∧ z.getD i 0 ≤ 9223372036854775807)
    (hc : 0 < len → ∃ b off, a = some ⟨b, off, none⟩ ∧ ∀ i, i < len → w.cell? ⟨b, off + i, none⟩ = some (.int .i64 (z.getD i 0))) :
    Calls Try.prog 32 #[.int .i64 e, .slice a len cap] w fun o w' => o = .returned (laterIs (laterTo e z len)) ∧ ∃ m, w' = w.drewN m := by
  have HC := Lib.hid hc
  have HZ := Lib.hid hz
  have HS := Lib.hid (show laterTo e z 0 = some e from if_pos ⟨h0, h1⟩)
  clear hc hz
  go_enter Try.func32, Try.ntmps32
  go_wp2_with (go_at_call 48; refine (maxEpoch_any _).mono ?_; rintro e w' ⟨rfl, rfl⟩)
  go_loopw [0, 6] (fun s0 s6 wr => ∃ (k m : Nat) (s : Int), k ≤ len ∧ s6 = .int .i64 k ∧ s0 = .int .i64 s ∧ wr = w.drewN m ∧ Hid (laterTo e z k = some s)) (fun _ s6 _ => len - (intOf s6).toNat)
  case atStart => exact ⟨0, 0, e, by omega, rfl, rfl, rfl, HS⟩
  case round =>
    obtain ⟨k, m, s, hk, rfl, rfl, rfl, HT⟩ := hrel
    obtain ⟨s0, s1⟩ := laterTo_bd HT.out
    by_cases hlt : k < len
    · obtain ⟨b, off, rfl, hall⟩ := HC.out (by omega)
      have hcell := hall k hlt
      clear hall
      obtain ⟨y0, y1⟩ := HZ.out k hlt
      by_cases hy : 0 ≤ z.getD k 0
      · have hy2 : decide (z.getD k 0 < 0) = false := by simpa using hy
        by_cases hs : z.getD k 0 ≤ 1099511627776 - s
        · have HN := Lib.hid (laterTo_step HT.out hy hs)
          generalize z.getD k 0 = y at *
          go_wp2
          go_quiet ((go_at_call 48; exact quiet_add_left (maxEpoch_any _)))
          go_wp2
          go_roundw
          case rel => exact ⟨k + 1, _, s + y, by omega, by go_num, rfl, rfl, HN⟩
          case measure => simp [intOf]; omega
        · have HN := Lib.hid (laterTo_none (laterTo_stop HT.out (by omega)) (len - (k + 1)))
          rw [show k + 1 + (len - (k + 1)) = len by omega] at HN
          generalize z.getD k 0 = y at *
          go_wp2
          go_quiet ((go_at_call 48; exact quiet_add_left (maxEpoch_any _)))
          go_wp2
          go_ret2
          exact ⟨by rw [HN.out]; rfl, m + nq, World.drewN_drewN _ _ _⟩
      · have hy2 : decide (z.getD k 0 < 0) = true := by simpa using hy
        have HN := Lib.hid (laterTo_none (laterTo_stop HT.out (by omega)) (len - (k + 1)))
        rw [show k + 1 + (len - (k + 1)) = len by omega] at HN
        generalize z.getD k 0 = y at *
        go_wp2
        go_quiet ((go_at_call 48; exact quiet_add_left (maxEpoch_any _)))
        go_wp2
        go_ret2
        exact ⟨by rw [HN.out]; rfl, m + nq, World.drewN_drewN _ _ _⟩
    · obtain rfl : k = len := by omega
      clear hlt
      have hlt : ¬ k < k := by omega
      go_wp2
      go_ret2
      exact ⟨by rw [HT.out]; rfl, _, rfl⟩
/-- The greatest of the first k + 1 numbers. -/
def maxTo (z : List Int) : Nat → Int
  | 0 => z.getD 0 0
  | k + 1 => max (maxTo z k) (z.getD (k + 1) 0)
theorem maxTo_is (z : List Int) : ∀ k, ∃ j, j ≤ k ∧ maxTo z k = z.getD j 0
  | 0 => ⟨0, Nat.le_refl _, rfl⟩
  | k + 1 => by
    obtain ⟨j, hj, e⟩ := maxTo_is z k
    by_cases h : maxTo z k ≤ z.getD (k + 1) 0
    · exact ⟨k + 1, Nat.le_refl _, by simp only [maxTo]; omega⟩
    · exact ⟨j, by omega, by simp only [maxTo]; omega⟩
theorem maxTo_ge (z : List Int) : ∀ k i, i ≤ k → z.getD i 0 ≤ maxTo z k
  | 0, i, h => by obtain rfl : i = 0 := by omega
                  exact Int.le_refl _
  | k + 1, i, h => by
    by_cases hi : i ≤ k
    · have := maxTo_ge z k i hi
      simp only [maxTo]; omega
    · obtain rfl : i = k + 1 := by omega
      simp only [maxTo]; omega

theorem max_if (t y : Int) : (if t < y then y else t) = max t y := by split <;> omega

theorem sliceMax_row (b off len cap : Nat) (z : List Int) (w : World) (h0 : 0 < len) (hlen : len ≤ 9223372036854775807)
    (hc : ∀ i, i < len → w.cell? ⟨b, off + i, none⟩ = some (.int .i64 (z.getD i 0))) :
    Calls Try.prog 54 #[.slice (some ⟨b, off, none⟩) len cap] w fun o w' => o = .returned (.int .i64 (maxTo z (len - 1))) ∧ w = w' := by
  have hc0 : w.cell? ⟨b, off, none⟩ = some (.int .i64 (z.getD 0 0)) := hc 0 h0
  have hl : ((len : Int) == 0) = false := by simp; omega
  have hl2 : decide ((len : Int) < 1) = false := by simp; omega
  have HC := Lib.hid hc
  clear hc
  have HM := Lib.hid (show maxTo z 0 = z.getD 0 0 from rfl)
  generalize z.getD 0 0 = x at *
  go_enter Try.func54, Try.ntmps54
  go_wp2
  go_loop [3, 4] (fun s3 s4 => ∃ k : Nat, 1 ≤ k ∧ k ≤ len ∧ s4 = .int .i64 k ∧ s3 = .int .i64 (maxTo z (k - 1))) (fun _ s4 => len - (intOf s4).toNat)
  case atStart => exact ⟨1, by omega, by omega, rfl, by rw [HM.out]⟩
  case round =>
    obtain ⟨k, k0, hk, rfl, rfl⟩ := hrel
    by_cases hlt : k < len
    · have hcell := HC.out k hlt
      have HS : Hid (maxTo z (k + 1 - 1) = max (maxTo z (k - 1)) (z.getD k 0)) := by
        obtain ⟨j, rfl⟩ : ∃ j, k = j + 1 := ⟨k - 1, by omega⟩
        exact Lib.hid rfl
      generalize z.getD k 0 = y at *
      generalize maxTo z (k - 1) = t at *
      go_wp2
      go_round
      case rel => exact ⟨k + 1, by omega, by omega, by go_num, by rw [HS.out, ← max_if]⟩
      case measure => simp [intOf]; omega
    · obtain rfl : k = len := by omega
      clear hlt
      have hlt : ¬ k < k := by omega
      go_wp2
      go_ret
      exact ⟨rfl, rfl⟩

theorem max_none (a : Option Addr) (cap : Nat) (w : World) : Calls Try.prog 47 #[.slice a 0 cap] w fun o w' => o = .returned (.int .i64 (-1)) ∧ w = w' := by
  go_enter Try.func47, Try.ntmps47
  go_wp2
  go_ret
  exact ⟨rfl, rfl⟩
theorem max_row (b off len cap : Nat) (z : List Int) (w : World) (h0 : 0 < len) (hlen : len ≤ 9223372036854775807)
    (hc : ∀ i, i < len → w.cell? ⟨b, off + i, none⟩ = some (.int .i64 (z.getD i 0))) :
    Calls Try.prog 47 #[.slice (some ⟨b, off, none⟩) len cap] w fun o w' => o = .returned (.int .i64 (maxTo z (len - 1))) ∧ w = w' := by
  have H := Lib.hid (sliceMax_row b off len cap z w h0 hlen hc)
  have hl : ((len : Int) == 0) = false := by simp; omega
  clear hc
  generalize maxTo z (len - 1) = t at *
  go_enter Try.func47, Try.ntmps47
  go_wp2_with fail
  refine H.out.mono ?_
  rintro e w' ⟨rfl, rfl⟩
  go_wp2_with fail
  go_ret
  exact ⟨rfl, rfl⟩
end Go.Proofs.Ytfcjgllljejfcaa
