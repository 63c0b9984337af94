/- The walk of LimitSpreads. -/
import Derived.Test.YthhfpkhmhhcaiaaLive
import Derived.Test.YthhfpkhmhhcaiaaSplit
import Derived.Test.YthhfpkhmhhcaiaaAdd
namespace Go.Proofs.Ythhfpkhmhhcaiaa
open Go Go.RowKit
set_option linter.unusedVariables false
set_option linter.unusedSimpArgs false

section
variable {a d : Int} {n : Nat}
/-- Where Epochs answers n, the first n - 1 epochs take d each, the last one something from 1 to d, and all of them together take a. -/
theorem rst_pos (h0 : 0 ≤ a) (h1 : 1 ≤ d) (hn : ceilQ a d = (n : Int)) : ∀ k, k < n → rst a d k = a - (k : Int) * d ∧ 0 < rst a d k ∧ (k + 1 < n → d ≤ rst a d k) := by
  intro k hk
  have e := Int.mul_ediv_add_emod a d
  have m0 := Int.emod_nonneg a (show d ≠ 0 by omega)
  have hc : (k : Int) * d ≤ a ∧ 0 < a - (k : Int) * d ∧ (k + 1 < n → d ≤ a - (k : Int) * d) := by
    unfold ceilQ at hn
    by_cases hm : a % d = 0
    · rw [if_pos hm] at hn
      have h : ((k : Int) + 1) * d ≤ a / d * d := Int.mul_le_mul_of_nonneg_right (by omega) (by omega)
      have c := Int.mul_comm d (a / d)
      rw [Int.add_mul] at h
      refine ⟨by omega, by omega, fun _ => by omega⟩
    · rw [if_neg hm] at hn
      have h : (k : Int) * d ≤ a / d * d := Int.mul_le_mul_of_nonneg_right (by omega) (by omega)
      have c := Int.mul_comm d (a / d)
      refine ⟨by omega, by omega, fun hk1 => ?_⟩
      have h' : ((k : Int) + 1) * d ≤ a / d * d := Int.mul_le_mul_of_nonneg_right (by omega) (by omega)
      rw [Int.add_mul] at h'
      omega
  have er := rst_eq (by omega) k hc.1
  exact ⟨er, by rw [er]; exact hc.2.1, fun h => by rw [er]; exact hc.2.2 h⟩
theorem rst_last (h0 : 0 ≤ a) (h1 : 1 ≤ d) (hn : ceilQ a d = (n : Int)) : rst a d n = 0 := by
  have e := Int.mul_ediv_add_emod a d
  have c := Int.mul_comm d (a / d)
  have m0 := Int.emod_nonneg a (show d ≠ 0 by omega)
  have m1 := Int.emod_lt_of_pos a (show 0 < d by omega)
  unfold ceilQ at hn
  by_cases hm : a % d = 0
  · rw [if_pos hm] at hn
    have er := rst_eq (a := a) (d := d) (by omega) n (by rw [← hn]; omega)
    rw [er, ← hn]
    omega
  · rw [if_neg hm] at hn
    obtain ⟨k, rfl⟩ : ∃ k, n = k + 1 := ⟨n - 1, by have : 0 ≤ a / d := Int.ediv_nonneg h0 (by omega); omega⟩
    have hk : a / d = (k : Int) := by omega
    have er := rst_eq (a := a) (d := d) (by omega) k (by rw [← hk]; omega)
    simp only [rst, wt]
    rw [er, ← hk]
    rw [if_pos (by omega)]
    omega
theorem sum_spr (k : Nat) : k ≤ n → sumTo (sprL a d n n) k + rst a d k = a := by
  induction k with
  | zero => intro _; simp [sumTo, rst]
  | succ k ih =>
    intro h
    have := ih (by omega)
    simp only [sumTo, rst]
    rw [sprL_at (by omega) (by omega)]
    omega
end
set_option maxHeartbeats 1600000 in
theorem walk_LimitSpreads (a0 a1 : Int) (w : World) (w0 : (Lit.int .u64 a0).wf = true) (w1 : (Lit.int .u64 a1).wf = true) :
    Calls Try.prog 6 #[.int .u64 a0, .int .u64 a1] w fun e w' => e = .returned (.bool true) ∧ Below w.heap.size w w' := by
  obtain ⟨b0, c0⟩ := u64_of w0
  obtain ⟨b1, c1⟩ := u64_of w1
  have HR := Lib.hid (fun w => repochs_any a0 a1 w b0 c0 b1 c1)
  clear w0 w1
  by_cases hno : epOk a0 a1 = false ∨ 4096 < epQ a0 a1
  · have HP := Lib.hid (fun w => spread_none a0 a1 w b0 c0 b1 c1 hno)
    generalize epQ a0 a1 = q at *
    generalize epOk a0 a1 = b at *
    cases b
    · clear hno
      go_enter Try.func6, Try.ntmps6
      go_wp2_with fail
      refine (HP.out _).mono ?_
      rintro e w1 ⟨rfl, rfl⟩
      go_wp2_with fail
      refine (HR.out _).mono ?_
      rintro e w1 ⟨rfl, rfl⟩
      go_wp2_with fail
      refine (alive_any _).mono ?_
      rintro e w1 ⟨rfl, hb⟩
      have HB := Lib.hid hb
      clear hb
      go_wp2_with fail
      go_ret
      exact ⟨rfl, HB.out⟩
    · have hq : 4096 < q := by rcases hno with h | h; cases h; exact h
      clear hno
      go_enter Try.func6, Try.ntmps6
      go_wp2_with fail
      refine (HP.out _).mono ?_
      rintro e w1 ⟨rfl, rfl⟩
      go_wp2_with fail
      refine (HR.out _).mono ?_
      rintro e w1 ⟨rfl, rfl⟩
      go_wp2_with fail
      refine (alive_any _).mono ?_
      rintro e w1 ⟨rfl, hb⟩
      have HB := Lib.hid hb
      clear hb
      go_wp2_with fail
      go_ret
      exact ⟨rfl, HB.out⟩
  · have hok : epOk a0 a1 = true := by
      cases h : epOk a0 a1
      · exact absurd (.inl h) hno
      · rfl
    have hle : epQ a0 a1 ≤ 4096 := by
      rcases Int.lt_or_le 4096 (epQ a0 a1) with h | h
      · exact absurd (.inr h) hno
      · exact h
    have hd : 1 ≤ a1 := by
      rcases Int.lt_or_le 0 a1 with h | h
      · omega
      · have := (ep_zero a0 a1 (by omega)).2
        rw [this] at hok
        cases hok
    have hc : epQ a0 a1 = ceilQ a0 a1 := by unfold epQ; rw [if_pos hok]
    obtain ⟨n, hn⟩ : ∃ n : Nat, epQ a0 a1 = (n : Int) := ⟨(epQ a0 a1).toNat, by have := ceilQ_nonneg a0 a1 b0 hd; omega⟩
    have hn' : n ≤ 4096 := by omega
    have HP := Lib.hid (fun w => spread_any a0 a1 n w b0 c0 b1 c1 hok hn hn')
    rw [hok, hn] at HR
    have HC : Hid (ceilQ a0 a1 = (n : Int)) := Lib.hid (by rw [← hc]; exact hn)
    clear hno hle hok hc hn
    go_enter Try.func6, Try.ntmps6
    go_wp2_with fail
    refine (HP.out _).mono ?_
    rintro e w1 ⟨g, rfl, hg, hB, hW⟩
    have HB := Lib.hid hB
    have HW := Lib.hid hW
    clear hB hW hg
    go_wp2_with fail
    refine (HR.out _).mono ?_
    rintro e w2 ⟨rfl, rfl⟩
    have HA : Hid (Calls Try.prog 15 #[.slice (some ⟨g, 0, none⟩) n n] w1 fun e w' => e = .returned (.tuple #[.int .u64 a0, .bool true]) ∧ w1 = w') := Lib.hid (by
      have hz : ∀ i, 0 ≤ (sprL a0 a1 n n).getD i 0 ∧ (sprL a0 a1 n n).getD i 0 ≤ 18446744073709551615 := fun i => by
        rcases Nat.lt_or_ge i n with h | h
        · rw [sprL_at h h]
          have := rst_nonneg (d := a1) b0 i
          have := rst_le (d := a1) b0 b1 i
          unfold wt
          split <;> omega
        · rw [List.getD_eq_getElem?_getD, List.getElem?_eq_none (by rw [sprL_len]; exact h)]
          decide
      have hs : sumTo (sprL a0 a1 n n) n = a0 := by
        have := sum_spr (a := a0) (d := a1) (n := n) n (Nat.le_refl _)
        rw [rst_last b0 hd HC.out] at this
        omega
      have hy := add_yes (z := sprL a0 a1 n n) (n := n) (by omega)
      have := add_row g 0 n n (sprL a0 a1 n n) w1 (by omega) (fun i hi => by rw [Nat.zero_add]; exact HB.out.cell (by rw [sprL_len]; exact hi)) hz
      rw [hy.1, hy.2, hs] at this
      exact this)
    go_wp2
    go_loop [51] (fun s51 => ∃ k : Nat, k ≤ n ∧ s51 = .int .i64 k) (fun s51 => n - (intOf s51).toNat)
    case atStart => exact ⟨0, by omega, rfl⟩
    case round =>
      obtain ⟨k, hk, rfl⟩ := hrel
      by_cases hlt : k < n
      · obtain ⟨_, r0, r1⟩ := rst_pos b0 hd HC.out k hlt
        have hx := HB.out.cell (i := k) (by rw [sprL_len]; exact hlt)
        rw [sprL_at hlt hlt] at hx
        have hv : ∃ v, wt (rst a0 a1 k) a1 = v ∧ 1 ≤ v ∧ v ≤ a1 ∧ (k + 1 < n → v = a1) := ⟨_, rfl, by unfold wt; split <;> omega, by unfold wt; split <;> omega, fun h => by have := r1 h; unfold wt; split <;> omega⟩
        obtain ⟨v, hv, v0, v1, v2⟩ := hv
        rw [hv] at hx
        have V2 := Lib.hid v2
        clear hv r0 r1 v2
        have d1 : (v == 0) = false := by simp; omega
        by_cases hkn : k + 1 < n
        · obtain rfl := V2.out hkn
          go_wp2
          go_round
          case rel => exact ⟨k + 1, by omega, by go_num⟩
          case measure => simp [intOf]; omega
        · have hkn' : decide (k + 1 < n) = false := by simpa using hkn
          go_wp2
          go_round
          case rel => exact ⟨k + 1, by omega, by go_num⟩
          case measure => simp [intOf]; omega
      · obtain rfl : k = n := by omega
        clear hlt
        have hlt : ¬ k < k := by omega
        go_wp2_with fail
        refine HA.out.mono ?_
        rintro e w2 ⟨rfl, rfl⟩
        go_wp2_with fail
        refine (alive_any _).mono ?_
        rintro e w2 ⟨rfl, hb⟩
        have HB2 := Lib.hid (HW.out.trans (hb.mono HW.out.size))
        clear hb
        go_wp2_with fail
        go_ret
        exact ⟨rfl, HB2.out⟩
end Go.Proofs.Ythhfpkhmhhcaiaa
