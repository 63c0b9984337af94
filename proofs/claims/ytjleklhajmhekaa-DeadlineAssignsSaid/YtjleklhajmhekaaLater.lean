/- clock.Later and the reference's Later compute the same, number by number. -/
import Derived.Test.YtjleklhajmhekaaBase
namespace Go.Proofs.Ytjleklhajmhekaa
open Go.RowKit
set_option linter.unusedVariables false

/-- The sum of an epoch and the first k numbers, if it is an epoch all the way. -/
def laterTo (e : Int) (z : List Int) : Nat → Option Int
  | 0 => if 0 ≤ e ∧ e ≤ 1099511627776 then some e else none
  | k + 1 => match laterTo e z k with
    | none => none
    | some s => if 0 ≤ z.getD k 0 ∧ z.getD k 0 ≤ 1099511627776 - s then some (s + z.getD k 0) else none
theorem laterTo_none {e : Int} {z : List Int} {k : Nat} (h : laterTo e z k = none) : ∀ d, laterTo e z (k + d) = none
  | 0 => h
  | d + 1 => by rw [← Nat.add_assoc]; simp only [laterTo, laterTo_none h d]
theorem laterTo_bd {e : Int} {z : List Int} : ∀ {k : Nat} {s : Int}, laterTo e z k = some s → 0 ≤ s ∧ s ≤ 1099511627776
  | 0, s, h => by simp only [laterTo] at h; split at h <;> simp at h; omega
  | k + 1, s, h => by
    simp only [laterTo] at h
    split at h
    · simp at h
    · rename_i s' hs
      have := laterTo_bd hs
      split at h
      · have := Option.some.inj h
        omega
      · cases h
theorem laterTo_step {e : Int} {z : List Int} {k : Nat} {s : Int} (h : laterTo e z k = some s) (h0 : 0 ≤ z.getD k 0) (h1 : z.getD k 0 ≤ 1099511627776 - s) : laterTo e z (k + 1) = some (s + z.getD k 0) := by
  simp only [laterTo, h]; rw [if_pos ⟨h0, h1⟩]
theorem laterTo_stop {e : Int} {z : List Int} {k : Nat} {s : Int} (h : laterTo e z k = some s) (h0 : ¬ (0 ≤ z.getD k 0 ∧ z.getD k 0 ≤ 1099511627776 - s)) : laterTo e z (k + 1) = none := by
  simp only [laterTo, h]; rw [if_neg h0]
/-- What Later answers. -/
def laterIs (o : Option Int) : Value := match o with | none => .tuple #[.int .i64 0, .bool false] | some s => .tuple #[.int .i64 s, .bool true]

theorem later_out (e : Int) (a : Option Addr) (len cap : Nat) (w : World) (h : e < 0 ∨ 1099511627776 < e) :
    Calls Try.prog 49 #[.int .i64 e, .slice a len cap] w fun e w' => e = .returned (laterIs none) ∧ w = w' := by
  have H := Lib.hid (isEpoch_no e w h)
  clear h
  go_enter Try.func49, Try.ntmps49
  go_wp2_with fail
  refine H.out.mono ?_
  rintro e w' ⟨rfl, rfl⟩
  go_wp2_with fail
  go_ret2
  exact ⟨rfl, rfl⟩

theorem later_any (e : Int) (a : Option Addr) (len cap : Nat) (z : List Int) (w : World) (h0 : 0 ≤ e) (h1 : e ≤ 1099511627776) (hlen : len ≤ 9223372036854775807)
    (hz : ∀ i, i < len → -9223372036854775808 ≤ z.getD i 0 ∧ z.getD i 0 ≤ 9223372036854775807)
    (hc : 0 < len → ∃ b off, a = some ⟨b, off, none⟩ ∧ ∀ i, i < len → w.cell? ⟨b, off + i, none⟩ = some (.int .i64 (z.getD i 0))) :
    Calls Try.prog 49 #[.int .i64 e, .slice a len cap] w fun o w' => o = .returned (laterIs (laterTo e z len)) ∧ w = w' := by
  have HC := Lib.hid hc
  have HZ := Lib.hid hz
  have H := Lib.hid (isEpoch_yes e w h0 h1)
  have HS := Lib.hid (show laterTo e z 0 = some e from if_pos ⟨h0, h1⟩)
  clear hc hz
  go_enter Try.func49, Try.ntmps49
  go_wp2_with fail
  refine H.out.mono ?_
  rintro e w' ⟨rfl, rfl⟩
  go_wp2_with fail
  go_loop [6, 15] (fun s6 s15 => ∃ (k : Nat) (s : Int), k ≤ len ∧ s15 = .int .i64 k ∧ s6 = .int .i64 s ∧ Hid (laterTo e z k = some s)) (fun _ s15 => len - (intOf s15).toNat)
  case atStart => exact ⟨0, e, by omega, rfl, rfl, HS⟩
  case round =>
    obtain ⟨k, s, hk, rfl, rfl, HT⟩ := hrel
    obtain ⟨s0, s1⟩ := laterTo_bd HT.out
    by_cases hlt : k < len
    · obtain ⟨b, off, rfl, hall⟩ := HC.out (by omega)
      have hcell := hall k hlt
      clear hall
      obtain ⟨y0, y1⟩ := HZ.out k hlt
      by_cases hy : 0 ≤ z.getD k 0
      · by_cases hs : z.getD k 0 ≤ 1099511627776 - s
        · have HN := Lib.hid (laterTo_step HT.out hy hs)
          generalize z.getD k 0 = y at *
          go_wp2
          go_round
          case rel => exact ⟨k + 1, s + y, by omega, by go_num, rfl, HN⟩
          case measure => simp [intOf]; omega
        · have HN := Lib.hid (laterTo_none (laterTo_stop HT.out (by omega)) (len - (k + 1)))
          rw [show k + 1 + (len - (k + 1)) = len by omega] at HN
          generalize z.getD k 0 = y at *
          go_wp2
          go_ret2
          exact ⟨by rw [HN.out]; rfl, rfl⟩
      · have HN := Lib.hid (laterTo_none (laterTo_stop HT.out (by omega)) (len - (k + 1)))
        rw [show k + 1 + (len - (k + 1)) = len by omega] at HN
        generalize z.getD k 0 = y at *
        go_wp2
        go_ret2
        exact ⟨by rw [HN.out]; rfl, rfl⟩
    · obtain rfl : k = len := by omega
      clear hlt
      have hlt : ¬ k < k := by omega
      go_wp2
      go_ret2
      exact ⟨by rw [HT.out]; rfl, rfl⟩

theorem refLater_out (e : Int) (a : Option Addr) (len cap : Nat) (w : World) (h : e < 0 ∨ 1099511627776 < e) :
    Calls Try.prog 30 #[.int .i64 e, .slice a len cap] w fun e w' => e = .returned (laterIs none) ∧ w = w' := by
  rcases h with h | h
  · go_enter Try.func30, Try.ntmps30
    go_wp2_with fail
    go_ret2
    exact ⟨rfl, rfl⟩
  · have h0 : 0 ≤ e := by omega
    go_enter Try.func30, Try.ntmps30
    go_wp2_with (go_at_call 50; refine (maxEpoch_any _).mono ?_; rintro e w' ⟨rfl, rfl⟩)
    go_ret2
    exact ⟨rfl, rfl⟩

theorem refLater_any (e : Int) (a : Option Addr) (len cap : Nat) (z : List Int) (w : World) (h0 : 0 ≤ e) (h1 : e ≤ 1099511627776) (hlen : len ≤ 9223372036854775807)
    (hz : ∀ i, i < len → -9223372036854775808 ≤ z.getD i 0 ∧ z.getD i 0 ≤ 9223372036854775807)
    (hc : 0 < len → ∃ b off, a = some ⟨b, off, none⟩ ∧ ∀ i, i < len → w.cell? ⟨b, off + i, none⟩ = some (.int .i64 (z.getD i 0))) :
    Calls Try.prog 30 #[.int .i64 e, .slice a len cap] w fun o w' => o = .returned (laterIs (laterTo e z len)) ∧ ∃ m, w' = w.drewN m := by
  have HC := Lib.hid hc
  have HZ := Lib.hid hz
  have HS := Lib.hid (show laterTo e z 0 = some e from if_pos ⟨h0, h1⟩)
  clear hc hz
  go_enter Try.func30, Try.ntmps30
  go_wp2_with (go_at_call 50; refine (maxEpoch_any _).mono ?_; rintro e w' ⟨rfl, rfl⟩)
  go_loopw [0, 6] (fun s0 s6 wr => ∃ (k m : Nat) (s : Int), k ≤ len ∧ s6 = .int .i64 k ∧ s0 = .int .i64 s ∧ wr = w.drewN m ∧ Hid (laterTo e z k = some s)) (fun _ s6 _ => len - (intOf s6).toNat)
  case atStart => exact ⟨0, 0, e, by omega, rfl, rfl, rfl, HS⟩
  case round =>
    obtain ⟨k, m, s, hk, rfl, rfl, rfl, HT⟩ := hrel
    obtain ⟨s0, s1⟩ := laterTo_bd HT.out
    by_cases hlt : k < len
    · obtain ⟨b, off, rfl, hall⟩ := HC.out (by omega)
      have hcell := hall k hlt
      clear hall
      obtain ⟨y0, y1⟩ := HZ.out k hlt
      by_cases hy : 0 ≤ z.getD k 0
      · have hy2 : decide (z.getD k 0 < 0) = false := by simpa using hy
        by_cases hs : z.getD k 0 ≤ 1099511627776 - s
        · have HN := Lib.hid (laterTo_step HT.out hy hs)
          generalize z.getD k 0 = y at *
          go_wp2
          go_quiet ((go_at_call 50; exact quiet_add_left (maxEpoch_any _)))
          go_wp2
          go_roundw
          case rel => exact ⟨k + 1, _, s + y, by omega, by go_num, rfl, rfl, HN⟩
          case measure => simp [intOf]; omega
        · have HN := Lib.hid (laterTo_none (laterTo_stop HT.out (by omega)) (len - (k + 1)))
          rw [show k + 1 + (len - (k + 1)) = len by omega] at HN
          generalize z.getD k 0 = y at *
          go_wp2
          go_quiet ((go_at_call 50; exact quiet_add_left (maxEpoch_any _)))
          go_wp2
          go_ret2
          exact ⟨by rw [HN.out]; rfl, m + nq, World.drewN_drewN _ _ _⟩
      · have hy2 : decide (z.getD k 0 < 0) = true := by simpa using hy
        have HN := Lib.hid (laterTo_none (laterTo_stop HT.out (by omega)) (len - (k + 1)))
        rw [show k + 1 + (len - (k + 1)) = len by omega] at HN
        generalize z.getD k 0 = y at *
        go_wp2
        go_quiet ((go_at_call 50; exact quiet_add_left (maxEpoch_any _)))
        go_wp2
        go_ret2
        exact ⟨by rw [HN.out]; rfl, m + nq, World.drewN_drewN _ _ _⟩
    · obtain rfl : k = len := by omega
      clear hlt
      have hlt : ¬ k < k := by omega
      go_wp2
      go_ret2
      exact ⟨by rw [HT.out]; rfl, _, rfl⟩
end Go.Proofs.Ytjleklhajmhekaa
