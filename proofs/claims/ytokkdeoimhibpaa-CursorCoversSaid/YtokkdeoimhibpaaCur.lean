/- A cursor in memory; New, At, Distance, Blocks and the reference's; the closure that moves the cursor. -/
import Derived.Test.YtokkdeoimhibpaaCyc
import Derived.Test.YtokkdeoimhibpaaKept
import Derived.Test.YtokkdeoimhibpaaClass
import Derived.Test.YtokkdeoimhibpaaTail
import Derived.RegionTactic
import Derived.BigRegion
import Derived.Outline
import Derived.IntWalk
namespace Go.Proofs.Ytokkdeoimhibpaa
open Go Go.RowKit
set_option linter.unusedVariables false
set_option linter.unusedSimpArgs false

/-- Block c is a cursor at index s. -/
def Cur (w : World) (c s : Nat) : Prop := Blk w c 46 #[.int .i64 (s : Int)]

theorem new_any (w : World) : Calls Try.prog 9 #[] w fun e w' => ∃ c, e = .returned (.pointer (some ⟨c, 0, none⟩)) ∧ w.heap.size ≤ c ∧ Hid (Cur w' c 0) ∧ Below w.heap.size w w' := by
  go_enter Try.func9, Try.ntmps9
  go_wp2
  go_ret
  exact ⟨w.heap.size, rfl, Nat.le_refl _, Lib.hid (Blk.new w _ _), (Below.refl _ _).alloc (Nat.le_refl _) _⟩
theorem at_any (c s : Nat) (w : World) (h : Cur w c s) : Calls Try.prog 15 #[.pointer (some ⟨c, 0, none⟩)] w fun e w' => e = .returned (.int .i64 s) ∧ w = w' := by
  have x := h.cell 0
  clear h
  go_enter Try.func15, Try.ntmps15
  go_wp2
  go_ret
  exact ⟨rfl, rfl⟩
theorem at_nil (w : World) : Calls Try.prog 15 #[.pointer none] w fun e w' => e = .returned (.int .i64 0) ∧ w = w' := by
  go_enter Try.func15, Try.ntmps15
  go_wp2
  go_ret
  exact ⟨rfl, rfl⟩
theorem distance_nil (n i : Int) (w : World) : Calls Try.prog 16 #[.pointer none, .int .i64 n, .int .i64 i] w fun e w' => e = .returned (.int .i64 0) ∧ w = w' := by
  go_enter Try.func16, Try.ntmps16
  go_wp2
  go_ret
  exact ⟨rfl, rfl⟩
theorem distance_out (c : Nat) (n i : Int) (w : World) (h : i < 0 ∨ n ≤ i) : Calls Try.prog 16 #[.pointer (some ⟨c, 0, none⟩), .int .i64 n, .int .i64 i] w fun e w' => e = .returned (.int .i64 (-1)) ∧ w = w' := by
  by_cases h1 : i < 0
  · clear h
    go_enter Try.func16, Try.ntmps16
    go_wp2
    go_ret
    exact ⟨rfl, rfl⟩
  · have h2 : n ≤ i := by omega
    clear h
    go_enter Try.func16, Try.ntmps16
    go_wp2
    go_ret
    exact ⟨rfl, rfl⟩
theorem tmod_dist {n a : Int} (hn : 0 < n) (ha : a < 0) : (a.tmod n = a % n ∧ a % n = 0) ∨ (a.tmod n < 0 ∧ a.tmod n + n = a % n) := by
  have h1 := Int.emod_nonneg a (show n ≠ 0 by omega)
  have h2 := Int.emod_lt_of_pos a hn
  have h3 := Int.tmod_eq_emod (a := a) (b := n)
  split at h3
  · rename_i h
    rcases h with h | h
    · omega
    · have := Int.emod_eq_zero_of_dvd h; omega
  · omega
/-- The distance, as a number. -/
def DistPost (n i : Int) (s : Nat) (w : World) (e : Ending) (w' : World) : Prop := ∃ d : Nat, e = .returned (.int .i64 d) ∧ (i - (s : Int)) % n = d ∧ w = w'
set_option maxHeartbeats 400000 in
theorem distance_any (c s : Nat) (n i : Int) (w : World) (h : Cur w c s) (hs : s ≤ 100) (h0 : 0 ≤ i) (h1 : i < n) (hn : n ≤ 9223372036854775807) :
    Calls Try.prog 16 #[.pointer (some ⟨c, 0, none⟩), .int .i64 n, .int .i64 i] w (DistPost n i s w) := by
  have x := h.cell 0
  clear h
  have hnn : 0 < n := by omega
  by_cases hi : (s : Int) ≤ i
  · have e1 := Int.emod_nonneg (i - (s : Int)) (show n ≠ 0 by omega)
    have e2 := Int.emod_lt_of_pos (i - (s : Int)) hnn
    have e3 : 0 ≤ i - (s : Int) := by omega
    go_enter Try.func16, Try.ntmps16
    go_wp2
    go_ret
    exact ⟨((i - (s : Int)) % n).toNat, ret_int (by omega), by omega, rfl⟩
  · have e3 : i - (s : Int) < 0 := by omega
    rcases tmod_dist hnn e3 with ⟨q1, q2⟩ | ⟨q1, q2⟩
    · have q3 : ¬ (i - (s : Int)).tmod n < 0 := by omega
      have Q := Lib.hid q1
      have Q2 := Lib.hid q2
      clear q1 q2
      go_enter Try.func16, Try.ntmps16
      go_wp2
      go_ret
      exact ⟨0, ret_int (by rw [Q.out, Q2.out]; rfl), by rw [Q2.out]; rfl, rfl⟩
    · have e1 := Int.emod_nonneg (i - (s : Int)) (show n ≠ 0 by omega)
      have e2 := Int.emod_lt_of_pos (i - (s : Int)) hnn
      have q3 : 0 ≤ (i - (s : Int)).tmod n + n := by omega
      have q4 : (i - (s : Int)).tmod n + n < n := by omega
      have Q2 := Lib.hid q2
      clear q2
      go_enter Try.func16, Try.ntmps16
      go_wp2
      go_ret
      exact ⟨((i - (s : Int)) % n).toNat, ret_int (by rw [Q2.out]; omega), by omega, rfl⟩

/-- What Blocks says. -/
def blocksN (n v p : Int) : Int := (n - 1) / (if p < v then p else v) + 1
theorem blocks_none (n v p : Int) (w : World) (h : n < 1 ∨ v < 1 ∨ p < 1) : Calls Try.prog 17 #[.int .i64 n, .int .i64 v, .int .i64 p] w fun e w' => e = .returned (.int .i64 0) ∧ w = w' := by
  by_cases h1 : n < 1
  · clear h
    go_enter Try.func17, Try.ntmps17
    go_wp2
    go_ret
    exact ⟨rfl, rfl⟩
  · by_cases h2 : v < 1
    · clear h
      go_enter Try.func17, Try.ntmps17
      go_wp2
      go_ret
      exact ⟨rfl, rfl⟩
    · have h3 : p < 1 := by omega
      clear h
      go_enter Try.func17, Try.ntmps17
      go_wp2
      go_ret
      exact ⟨rfl, rfl⟩
theorem quo_le {a m : Int} (ha : 0 ≤ a) (hm : 1 ≤ m) : 0 ≤ a / m ∧ a / m ≤ a := ⟨Int.ediv_nonneg ha (by omega), Int.ediv_le_self _ ha⟩
theorem blocks_any (n v p : Int) (w : World) (h1 : 1 ≤ n) (hn : n ≤ 9223372036854775807) (h2 : 1 ≤ v) (h3 : 1 ≤ p) : Calls Try.prog 17 #[.int .i64 n, .int .i64 v, .int .i64 p] w fun e w' => e = .returned (.int .i64 (blocksN n v p)) ∧ w = w' := by
  have x1 : ¬ n < 1 := by omega
  have x2 : ¬ v < 1 := by omega
  have x3 : ¬ p < 1 := by omega
  by_cases hm : p < v
  · have b : blocksN n v p = (n - 1) / p + 1 := by rw [blocksN, if_pos hm]
    have HB := Lib.hid b
    have hq := quo_le (show 0 ≤ n - 1 by omega) h3
    clear b
    go_enter Try.func17, Try.ntmps17
    go_wp2
    go_ret
    exact ⟨ret_int HB.out.symm, rfl⟩
  · have b : blocksN n v p = (n - 1) / v + 1 := by rw [blocksN, if_neg hm]
    have HB := Lib.hid b
    have hq := quo_le (show 0 ≤ n - 1 by omega) h2
    have hm' : v ≤ p := by omega
    clear b
    go_enter Try.func17, Try.ntmps17
    go_wp2
    go_ret
    exact ⟨ret_int HB.out.symm, rfl⟩
theorem rblocks_none (n v p : Int) (w : World) (h : n < 1 ∨ v < 1 ∨ p < 1) : Calls Try.prog 18 #[.int .i64 n, .int .i64 v, .int .i64 p] w fun e w' => e = .returned (.int .i64 0) ∧ w = w' := by
  by_cases h1 : n < 1
  · clear h
    go_enter Try.func18, Try.ntmps18
    go_wp2
    go_ret
    exact ⟨rfl, rfl⟩
  · by_cases h2 : v < 1
    · clear h
      go_enter Try.func18, Try.ntmps18
      go_wp2
      go_ret
      exact ⟨rfl, rfl⟩
    · have h3 : p < 1 := by omega
      clear h
      go_enter Try.func18, Try.ntmps18
      go_wp2
      go_ret
      exact ⟨rfl, rfl⟩
theorem up_quo {n m : Int} (hn : 1 ≤ n) (hm : 1 ≤ m) : (n % m = 0 ∧ (n - 1) / m + 1 = n / m) ∨ (0 < n % m ∧ (n - 1) / m + 1 = n / m + 1) := by
  have h1 := Int.emod_nonneg n (show m ≠ 0 by omega)
  have h2 := Int.emod_lt_of_pos n (show 0 < m by omega)
  have h3 := Int.mul_ediv_add_emod n m
  rcases Int.lt_or_eq_of_le h1 with h | h
  · refine .inr ⟨h, ?_⟩
    have : (n - 1) / m = n / m := by
      refine (Int.ediv_emod_unique (show 0 < m by omega) (r := n % m - 1)).2 ⟨by omega, by omega, by omega⟩ |>.1
    omega
  · refine .inl ⟨h.symm, ?_⟩
    have : (n - 1) / m = n / m - 1 := by
      refine (Int.ediv_emod_unique (show 0 < m by omega) (r := m - 1)).2 ⟨by rw [Int.mul_sub, Int.mul_one]; omega, by omega, by omega⟩ |>.1
    omega
theorem rblocks_any (n v p : Int) (w : World) (h1 : 1 ≤ n) (hn : n ≤ 9223372036854775807) (h2 : 1 ≤ v) (h3 : 1 ≤ p) : Calls Try.prog 18 #[.int .i64 n, .int .i64 v, .int .i64 p] w fun e w' => e = .returned (.int .i64 (blocksN n v p)) ∧ w = w' := by
  have x1 : ¬ n < 1 := by omega
  have x2 : ¬ v < 1 := by omega
  have x3 : ¬ p < 1 := by omega
  by_cases hm : p < v
  · have b : blocksN n v p = (n - 1) / p + 1 := by rw [blocksN, if_pos hm]
    have hq := quo_le (show 0 ≤ n - 1 by omega) h3
    have hq' := quo_le (show 0 ≤ n by omega) h3
    rcases up_quo h1 h3 with ⟨u1, u2⟩ | ⟨u1, u2⟩
    · have u3 : ¬ 0 < n % p := by omega
      have HB := Lib.hid (b.trans u2)
      clear b u1 u2
      go_enter Try.func18, Try.ntmps18
      go_wp2
      go_ret
      exact ⟨ret_int HB.out.symm, rfl⟩
    · have u3 : n / p + 1 ≤ 9223372036854775807 := by omega
      have HB := Lib.hid (b.trans u2)
      clear b u2
      go_enter Try.func18, Try.ntmps18
      go_wp2
      go_ret
      exact ⟨ret_int HB.out.symm, rfl⟩
  · have b : blocksN n v p = (n - 1) / v + 1 := by rw [blocksN, if_neg hm]
    have hq := quo_le (show 0 ≤ n - 1 by omega) h2
    have hq' := quo_le (show 0 ≤ n by omega) h2
    have hm' : v ≤ p := by omega
    rcases up_quo h1 h2 with ⟨u1, u2⟩ | ⟨u1, u2⟩
    · have u3 : ¬ 0 < n % v := by omega
      have HB := Lib.hid (b.trans u2)
      clear b u1 u2
      go_enter Try.func18, Try.ntmps18
      go_wp2
      go_ret
      exact ⟨ret_int HB.out.symm, rfl⟩
    · have u3 : n / v + 1 ≤ 9223372036854775807 := by omega
      have HB := Lib.hid (b.trans u2)
      clear b u2
      go_enter Try.func18, Try.ntmps18
      go_wp2
      go_ret
      exact ⟨ret_int HB.out.symm, rfl⟩
end Go.Proofs.Ytokkdeoimhibpaa
