/- gwei.Add and the reference's Add: the sum, or (0, false). (After stage 1's text.) -/
import Derived.Test.YtcmlkcmoailhjaaWords
import Derived.Laws.Externs
import Derived.Deep.QuietTactic
import Derived.BigQuiet
namespace Go.Proofs.Ytcmlkcmoailhjaa
open Go.RowKit
set_option linter.unusedVariables false

/-- The sum of the first k numbers. -/
def sumTo (z : List Int) : Nat → Int
  | 0 => 0
  | k + 1 => sumTo z k + z.getD k 0
def addOk (z : List Int) (n : Nat) : Bool := decide (sumTo z n ≤ 18446744073709551615)
def addQ (z : List Int) (n : Nat) : Int := if sumTo z n ≤ 18446744073709551615 then sumTo z n else 0
theorem add_yes {z : List Int} {n : Nat} (h : sumTo z n ≤ 18446744073709551615) : addOk z n = true ∧ addQ z n = sumTo z n := ⟨decide_eq_true h, if_pos h⟩
theorem add_not {z : List Int} {n : Nat} (h : ¬ sumTo z n ≤ 18446744073709551615) : addOk z n = false ∧ addQ z n = 0 := ⟨decide_eq_false h, if_neg h⟩
theorem sumTo_nonneg {z : List Int} (hz : ∀ i, 0 ≤ z.getD i 0) : ∀ n, 0 ≤ sumTo z n
  | 0 => Int.le_refl _
  | k + 1 => by have := sumTo_nonneg hz k; have := hz k; simp only [sumTo]; omega
theorem sumTo_mono {z : List Int} (hz : ∀ i, 0 ≤ z.getD i 0) (a : Nat) : ∀ d, sumTo z a ≤ sumTo z (a + d)
  | 0 => Int.le_refl _
  | d + 1 => by have := sumTo_mono hz a d; have := hz (a + d); rw [← Nat.add_assoc]; simp only [sumTo]; omega

theorem add64_law (x y : Int) (h0 : 0 ≤ x) (h1 : x ≤ 18446744073709551615) (h2 : 0 ≤ y) (h3 : y ≤ 18446744073709551615) (w : World) :
    (callFunc 36 #[.int .u64 x, .int .u64 y, .int .u64 0]).run Try.prog w =
      .ok (.value (.tuple #[.int .u64 ((x + y) % 18446744073709551616), .int .u64 ((x + y) / 18446744073709551616)])) w := by
  rw [run_callFunc_extern Try.func36 (by kernel_rfl) (by kernel_rfl) (by kernel_rfl) (e := add64Entry) (by kernel_rfl), run_add64 x y 0 (by omega) (by omega) (by omega) (by omega)]
  simp only [Result.andThen, Int.add_zero]

theorem refmax_any (w : World) : Calls Try.prog 35 #[] w fun e w' => e = .returned (.int .u64 18446744073709551615) ∧ w = w' := by
  go_enter Try.func35, Try.ntmps35
  go_wp2
  go_ret
  exact ⟨rfl, rfl⟩
theorem add_none (a : Option Addr) (cap : Nat) (w : World) :
    Calls Try.prog 31 #[.slice a 0 cap] w fun e w' => e = .returned (.tuple #[.int .u64 0, .bool true]) ∧ w = w' := by
  go_enter Try.func31, Try.ntmps31
  go_wp2
  go_loop [4, 11] (fun s4 s11 => s4 = .int .u64 0 ∧ s11 = .int .i64 0) (fun _ _ => 0)
  case atStart => exact ⟨rfl, rfl⟩
  case round =>
    obtain ⟨rfl, rfl⟩ := hrel
    go_wp2
    go_ret2
    exact ⟨rfl, rfl⟩

theorem refadd_none (a : Option Addr) (cap : Nat) (w : World) :
    Calls Try.prog 27 #[.slice a 0 cap] w fun e w' => e = .returned (.tuple #[.int .u64 0, .bool true]) ∧ w = w' := by
  go_enter Try.func27, Try.ntmps27
  go_wp2
  go_loop [4, 5] (fun s4 s5 => s4 = .int .u64 0 ∧ s5 = .int .i64 0) (fun _ _ => 0)
  case atStart => exact ⟨rfl, rfl⟩
  case round =>
    obtain ⟨rfl, rfl⟩ := hrel
    go_wp2
    go_ret2
    exact ⟨rfl, rfl⟩

theorem add_row (b off len cap : Nat) (z : List Int) (w : World) (hlen : len ≤ 9223372036854775807)
    (hc : ∀ i, i < len → w.cell? ⟨b, off + i, none⟩ = some (.int .u64 (z.getD i 0))) (hz : ∀ i, 0 ≤ z.getD i 0 ∧ z.getD i 0 ≤ 18446744073709551615) :
    Calls Try.prog 31 #[.slice (some ⟨b, off, none⟩) len cap] w fun e w' => e = .returned (.tuple #[.int .u64 (addQ z len), .bool (addOk z len)]) ∧ w = w' := by
  have hn := sumTo_nonneg (fun i => (hz i).1)
  have HC := Lib.hid hc
  have HZ := Lib.hid hz
  have HN := Lib.hid hn
  clear hc hz hn
  go_enter Try.func31, Try.ntmps31
  go_wp2
  go_loop [4, 11] (fun s4 s11 => ∃ (k : Nat) (t : Int), k ≤ len ∧ s11 = .int .i64 k ∧ s4 = .int .u64 t ∧ Hid (t = sumTo z k ∧ t ≤ 18446744073709551615)) (fun _ s11 => len - (intOf s11).toNat)
  case atStart => exact ⟨0, 0, by omega, rfl, rfl, Lib.hid ⟨rfl, by omega⟩⟩
  case round =>
    obtain ⟨k, t, hk, rfl, rfl, HT⟩ := hrel
    have t0 : 0 ≤ t := by rw [HT.out.1]; exact HN.out k
    have t1 := HT.out.2
    by_cases hlt : k < len
    · have hcell := HC.out k hlt
      obtain ⟨y0, y1⟩ := HZ.out k
      have hs : sumTo z (k + 1) = t + z.getD k 0 := by rw [HT.out.1]; rfl
      generalize z.getD k 0 = y at *
      have HS := Lib.hid hs
      have hl := fun w => add64_law t y t0 t1 y0 y1 w
      by_cases hsum : t + y ≤ 18446744073709551615
      · have e1 : (t + y) % 18446744073709551616 = t + y := by omega
        have e2 : (t + y) / 18446744073709551616 = 0 := by omega
        rw [e1, e2] at hl
        clear e1 e2 hs
        go_wp2
        go_round
        case rel => exact ⟨k + 1, t + y, by omega, by go_num, rfl, Lib.hid ⟨HS.out.symm, hsum⟩⟩
        case measure => simp [intOf]; omega
      · have e2 : (t + y) / 18446744073709551616 = 1 := by omega
        have hbig : ¬ sumTo z len ≤ 18446744073709551615 := by
          have := sumTo_mono (fun i => (HZ.out i).1) (k + 1) (len - (k + 1))
          rw [show k + 1 + (len - (k + 1)) = len by omega, HS.out] at this
          omega
        have HB := Lib.hid (add_not hbig)
        rw [e2] at hl
        clear e2 hs hbig
        go_wp2
        go_ret2
        exact ⟨by rw [HB.out.1, HB.out.2]; rfl, rfl⟩
    · obtain rfl : k = len := by omega
      have HB := Lib.hid (add_yes (z := z) (n := k) (by rw [← HT.out.1]; exact t1))
      have HE := Lib.hid HT.out.1
      clear hlt
      have hlt : ¬ k < k := by omega
      go_wp2
      go_ret2
      exact ⟨by rw [HB.out.1, HB.out.2, ← HE.out]; rfl, rfl⟩
theorem quiet_again {P : Program} {f : FuncId} {args : Array Value} {w : World} {a n : Nat} {v : Value}
    (h : Calls P f args (w.drewN (a + n)) fun e w' => e = .returned v ∧ w.drewN (a + n) = w') :
    Calls P f args (w.drewN (a + n)) fun e w'' => e = .returned v ∧ ∃ m, w'' = w.drewN (a + m) :=
  h.mono fun _ _ ⟨he, hm⟩ => ⟨he, n, hm.symm⟩
theorem refadd_row (b off len cap : Nat) (z : List Int) (w : World) (hlen : len ≤ 9223372036854775807)
    (hc : ∀ i, i < len → w.cell? ⟨b, off + i, none⟩ = some (.int .u64 (z.getD i 0))) (hz : ∀ i, 0 ≤ z.getD i 0 ∧ z.getD i 0 ≤ 18446744073709551615) :
    Calls Try.prog 27 #[.slice (some ⟨b, off, none⟩) len cap] w fun e w' => e = .returned (.tuple #[.int .u64 (addQ z len), .bool (addOk z len)]) ∧ ∃ n, w' = w.drewN n := by
  have hn := sumTo_nonneg (fun i => (hz i).1)
  have HC := Lib.hid hc
  have HZ := Lib.hid hz
  have HN := Lib.hid hn
  clear hc hz hn
  go_enter Try.func27, Try.ntmps27
  go_wp2
  go_loopw [4, 5] (fun s4 s5 wr => ∃ (k m : Nat) (t : Int), k ≤ len ∧ s5 = .int .i64 k ∧ s4 = .int .u64 t ∧ wr = w.drewN m ∧ Hid (t = sumTo z k ∧ t ≤ 18446744073709551615)) (fun _ s5 _ => len - (intOf s5).toNat)
  case atStart => exact ⟨0, 0, 0, by omega, rfl, rfl, rfl, Lib.hid ⟨rfl, by omega⟩⟩
  case round =>
    obtain ⟨k, m, t, hk, rfl, rfl, rfl, HT⟩ := hrel
    have t0 : 0 ≤ t := by rw [HT.out.1]; exact HN.out k
    have t1 := HT.out.2
    by_cases hlt : k < len
    · have hcell := HC.out k hlt
      obtain ⟨y0, y1⟩ := HZ.out k
      have hs : sumTo z (k + 1) = t + z.getD k 0 := by rw [HT.out.1]; rfl
      generalize z.getD k 0 = y at *
      have HS := Lib.hid hs
      clear hs
      by_cases hsum : t + y ≤ 18446744073709551615
      · go_wp2
        go_quiet ((go_at_call 35; exact quiet_again (refmax_any _)))
        go_wp2
        go_roundw
        case rel => exact ⟨k + 1, _, t + y, by omega, by go_num, rfl, rfl, Lib.hid ⟨HS.out.symm, hsum⟩⟩
        case measure => simp [intOf]; omega
      · have hbig : ¬ sumTo z len ≤ 18446744073709551615 := by
          have := sumTo_mono (fun i => (HZ.out i).1) (k + 1) (len - (k + 1))
          rw [show k + 1 + (len - (k + 1)) = len by omega, HS.out] at this
          omega
        have HB := Lib.hid (add_not hbig)
        clear hbig
        go_wp2
        go_quiet ((go_at_call 35; exact quiet_again (refmax_any _)))
        go_wp2
        go_ret2
        exact ⟨by rw [HB.out.1, HB.out.2]; rfl, m + nq, World.drewN_drewN _ _ _⟩
    · obtain rfl : k = len := by omega
      have HB := Lib.hid (add_yes (z := z) (n := k) (by rw [← HT.out.1]; exact t1))
      have HE := Lib.hid HT.out.1
      clear hlt
      have hlt : ¬ k < k := by omega
      go_wp2
      go_ret2
      exact ⟨by rw [HB.out.1, HB.out.2, ← HE.out]; rfl, _, rfl⟩

end Go.Proofs.Ytcmlkcmoailhjaa
