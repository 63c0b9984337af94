/- The clock's parts: a counter, a clock in block n with epochs of L blocks, EpochOf, First, isEpoch, and the reference's. -/
import Derived.Test.YtnlfnglhkpmdnaaWords
namespace Go.Proofs.Ytnlfnglhkpmdnaa
open Go.RowKit
set_option linter.unusedVariables false

/-- Block b is a clock in block n with epochs of L blocks. -/
def ClockAt (w : World) (b : Nat) (n L : Int) : Prop := Blk w b 44 #[.int .i64 n, .int .i64 L]

theorem clock_cells {w : World} {b : Nat} {n L : Int} (h : ClockAt w b n L) :
    w.cell? ⟨b, 0, none⟩ = some (.int .i64 n) ∧ w.cell? ⟨b, 1, none⟩ = some (.int .i64 L) ∧ w.frozen? ⟨b, 0, none⟩ = false :=
  ⟨Blk.cell h 0, Blk.cell h 1, Blk.frozen h 0⟩

theorem current_any (b : Nat) (n : Int) (w : World) (h : w.cell? ⟨b, 0, none⟩ = some (.int .i64 n)) :
    Calls Try.prog 22 #[.pointer (some ⟨b, 0, none⟩)] w fun e w' => e = .returned (.int .i64 n) ∧ w = w' := by
  go_enter Try.func22, Try.ntmps22
  go_wp2
  go_ret
  exact ⟨rfl, rfl⟩

theorem advance_any (b : Nat) (n : Int) (w : World) (h0 : 0 ≤ n) (h1 : n ≤ 9223372036854775806) (h : w.cell? ⟨b, 0, none⟩ = some (.int .i64 n)) (hf : w.frozen? ⟨b, 0, none⟩ = false) :
    Calls Try.prog 23 #[.pointer (some ⟨b, 0, none⟩)] w fun e w' => e = .returned (.tuple #[]) ∧ (w.setCell ⟨b, 0, none⟩ (.int .i64 (n + 1))) = w' := by
  go_enter Try.func23, Try.ntmps23
  go_wp2
  go_end0
  exact ⟨rfl, rfl⟩

def epochOf (n L : Int) : Int := if n < 0 ∨ L < 1 then 0 else n / L
theorem epochOf_yes {n L : Int} (h0 : 0 ≤ n) (h1 : 1 ≤ L) : epochOf n L = n / L := if_neg (by omega)

theorem epochOf_any (n L : Int) (w : World) (hn : n ≤ 9223372036854775807) :
    Calls Try.prog 17 #[.int .i64 n, .int .i64 L] w fun e w' => e = .returned (.int .i64 (epochOf n L)) ∧ w = w' := by
  by_cases h0 : n < 0
  · have hd : decide (n < 0) = true := by simpa using h0
    have H := Lib.hid (show epochOf n L = 0 from if_pos (.inl h0))
    go_enter Try.func17, Try.ntmps17
    go_wp2
    go_ret
    exact ⟨by rw [H.out]; rfl, rfl⟩
  · have hd : decide (n < 0) = false := by simpa using h0
    by_cases h1 : L < 1
    · have hd1 : decide (L < 1) = true := by simpa using h1
      have H := Lib.hid (show epochOf n L = 0 from if_pos (.inr h1))
      go_enter Try.func17, Try.ntmps17
      go_wp2
      go_ret
      exact ⟨by rw [H.out]; rfl, rfl⟩
    · have hd1 : decide (L < 1) = false := by simpa using h1
      have hz : (L == 0) = false := by simp; omega
      have H := Lib.hid (epochOf_yes (n := n) (L := L) (by omega) (by omega))
      have q0 : 0 ≤ n / L := Int.ediv_nonneg (by omega) (by omega)
      have q1 : n / L ≤ n := Int.ediv_le_self _ (by omega)
      have h2 : 0 ≤ n := by omega
      have h3 : 1 ≤ L := by omega
      clear h0 h1
      go_enter Try.func17, Try.ntmps17
      go_wp2
      go_ret
      exact ⟨by rw [H.out]; rfl, rfl⟩

theorem refEpochOf_any (n L : Int) (w : World) (hn : n ≤ 9223372036854775807) :
    Calls Try.prog 14 #[.int .i64 n, .int .i64 L] w fun e w' => e = .returned (.int .i64 (epochOf n L)) ∧ w = w' := by
  by_cases h0 : n < 0
  · have hd : decide (n < 0) = true := by simpa using h0
    have H := Lib.hid (show epochOf n L = 0 from if_pos (.inl h0))
    go_enter Try.func14, Try.ntmps14
    go_wp2
    go_ret
    exact ⟨by rw [H.out]; rfl, rfl⟩
  · have hd : decide (n < 0) = false := by simpa using h0
    by_cases h1 : L < 1
    · have hd1 : decide (L < 1) = true := by simpa using h1
      have H := Lib.hid (show epochOf n L = 0 from if_pos (.inr h1))
      go_enter Try.func14, Try.ntmps14
      go_wp2
      go_ret
      exact ⟨by rw [H.out]; rfl, rfl⟩
    · have hd1 : decide (L < 1) = false := by simpa using h1
      have hz : (L == 0) = false := by simp; omega
      have H := Lib.hid (epochOf_yes (n := n) (L := L) (by omega) (by omega))
      have q0 : 0 ≤ n / L := Int.ediv_nonneg (by omega) (by omega)
      have q1 : n / L ≤ n := Int.ediv_le_self _ (by omega)
      have h2 : 0 ≤ n := by omega
      have h3 : 1 ≤ L := by omega
      clear h0 h1
      go_enter Try.func14, Try.ntmps14
      go_wp2
      go_ret
      exact ⟨by rw [H.out]; rfl, rfl⟩

theorem isEpoch_yes (n : Int) (w : World) (h0 : 0 ≤ n) (h1 : n ≤ 1099511627776) :
    Calls Try.prog 24 #[.int .i64 n] w fun e w' => e = .returned (.bool true) ∧ w = w' := by
  go_enter Try.func24, Try.ntmps24
  go_wp2
  go_ret
  exact ⟨rfl, rfl⟩
theorem isEpoch_no (n : Int) (w : World) (h : n < 0 ∨ 1099511627776 < n) :
    Calls Try.prog 24 #[.int .i64 n] w fun e w' => e = .returned (.bool false) ∧ w = w' := by
  rcases h with h | h
  · have hd : decide (0 ≤ n) = false := by simpa using h
    go_enter Try.func24, Try.ntmps24
    go_wp2
    go_ret
    exact ⟨rfl, rfl⟩
  · have hd : decide (0 ≤ n) = true := by simp; omega
    have hd : decide (n ≤ 1099511627776) = false := by simpa using h
    go_enter Try.func24, Try.ntmps24
    go_wp2
    go_ret
    exact ⟨rfl, rfl⟩
theorem maxEpoch_any (w : World) : Calls Try.prog 25 #[] w fun e w' => e = .returned (.int .i64 1099511627776) ∧ w = w' := by
  go_enter Try.func25, Try.ntmps25
  go_wp2
  go_ret
  exact ⟨rfl, rfl⟩

theorem first_yes (n L : Int) (w : World) (h0 : 0 ≤ n) (h1 : n ≤ 1099511627776) (h2 : 1 ≤ L) (h3 : L ≤ 1048576) :
    Calls Try.prog 15 #[.int .i64 n, .int .i64 L] w fun e w' => e = .returned (.tuple #[.int .i64 (n * L), .bool true]) ∧ w = w' := by
  have m0 : 0 ≤ n * L := Int.mul_nonneg h0 (by omega)
  have m1 : n * L ≤ 1099511627776 * 1048576 := Int.mul_le_mul h1 h3 (by omega) (by omega)
  go_enter Try.func15, Try.ntmps15
  go_wp2_with (go_at_call 24; refine (isEpoch_yes _ _ h0 h1).mono ?_; rintro e w' ⟨rfl, rfl⟩)
  go_ret2
  exact ⟨rfl, rfl⟩
theorem first_no (n L : Int) (w : World) (h : n < 0 ∨ 1099511627776 < n ∨ L < 1 ∨ 1048576 < L) :
    Calls Try.prog 15 #[.int .i64 n, .int .i64 L] w fun e w' => e = .returned (.tuple #[.int .i64 0, .bool false]) ∧ w = w' := by
  by_cases hn : n < 0 ∨ 1099511627776 < n
  · have H := Lib.hid (isEpoch_no n w hn)
    clear h hn
    go_enter Try.func15, Try.ntmps15
    go_wp2_with fail
    refine H.out.mono ?_
    rintro e w' ⟨rfl, rfl⟩
    go_wp2
    go_ret2
    exact ⟨rfl, rfl⟩
  · have H := Lib.hid (isEpoch_yes n w (by omega) (by omega))
    by_cases hl : L < 1
    · clear h hn
      go_enter Try.func15, Try.ntmps15
      go_wp2_with fail
      refine H.out.mono ?_
      rintro e w' ⟨rfl, rfl⟩
      go_wp2
      go_ret2
      exact ⟨rfl, rfl⟩
    · have h2 : 1048576 < L := by omega
      clear h hn
      go_enter Try.func15, Try.ntmps15
      go_wp2_with fail
      refine H.out.mono ?_
      rintro e w' ⟨rfl, rfl⟩
      go_wp2
      go_ret2
      exact ⟨rfl, rfl⟩
theorem refFirst_yes (n L : Int) (w : World) (h0 : 0 ≤ n) (h1 : n ≤ 1099511627776) (h2 : 1 ≤ L) (h3 : L ≤ 1048576) :
    Calls Try.prog 16 #[.int .i64 n, .int .i64 L] w fun e w' => e = .returned (.tuple #[.int .i64 (n * L), .bool true]) ∧ w = w' := by
  have m0 : 0 ≤ n * L := Int.mul_nonneg h0 (by omega)
  have m1 : n * L ≤ 1099511627776 * 1048576 := Int.mul_le_mul h1 h3 (by omega) (by omega)
  go_enter Try.func16, Try.ntmps16
  go_wp2_with (go_at_call 25; refine (maxEpoch_any _).mono ?_; rintro e w' ⟨rfl, rfl⟩)
  go_ret2
  exact ⟨rfl, rfl⟩
theorem refFirst_no (n L : Int) (w : World) (h : n < 0 ∨ 1099511627776 < n ∨ L < 1 ∨ 1048576 < L) :
    Calls Try.prog 16 #[.int .i64 n, .int .i64 L] w fun e w' => e = .returned (.tuple #[.int .i64 0, .bool false]) ∧ w = w' := by
  by_cases hn : n < 0
  · clear h
    go_enter Try.func16, Try.ntmps16
    go_wp2_with fail
    go_ret2
    exact ⟨rfl, rfl⟩
  · have hn0 : 0 ≤ n := by omega
    clear hn
    by_cases hm : 1099511627776 < n
    · clear h
      go_enter Try.func16, Try.ntmps16
      go_wp2_with (go_at_call 25; refine (maxEpoch_any _).mono ?_; rintro e w' ⟨rfl, rfl⟩)
      go_ret2
      exact ⟨rfl, rfl⟩
    · have hm0 : n ≤ 1099511627776 := by omega
      clear hm
      by_cases hl : L < 1
      · clear h
        go_enter Try.func16, Try.ntmps16
        go_wp2_with (go_at_call 25; refine (maxEpoch_any _).mono ?_; rintro e w' ⟨rfl, rfl⟩)
        go_ret2
        exact ⟨rfl, rfl⟩
      · have h2 : 1048576 < L := by omega
        clear h hl
        go_enter Try.func16, Try.ntmps16
        go_wp2_with (go_at_call 25; refine (maxEpoch_any _).mono ?_; rintro e w' ⟨rfl, rfl⟩)
        go_ret2
        exact ⟨rfl, rfl⟩
end Go.Proofs.Ytnlfnglhkpmdnaa
