/- gwei.MulDiv and the reference's MulDiv both return the quotient of the product, or (0, false). -/
import Derived.Test.YtfcjgllljejfcaaDiv
namespace Go.Proofs.Ytfcjgllljejfcaa
open Go.RowKit
open GwMath
set_option linter.unusedVariables false

/-- The quotient, 0 where there is none; whether there is one. -/
def mdOk (a b d : Nat) : Bool := decide (1 ≤ d ∧ a * b / d < 18446744073709551616)
def mdQ (a b d : Nat) : Nat := if 1 ≤ d ∧ a * b / d < 18446744073709551616 then a * b / d else 0
theorem md_yes {a b d : Nat} (h1 : 1 ≤ d) (h2 : a * b / d < 18446744073709551616) : mdOk a b d = true ∧ mdQ a b d = a * b / d :=
  ⟨decide_eq_true ⟨h1, h2⟩, if_pos ⟨h1, h2⟩⟩
theorem md_no {a b d : Nat} (h : ¬ (1 ≤ d ∧ a * b / d < 18446744073709551616)) : mdOk a b d = false ∧ mdQ a b d = 0 :=
  ⟨decide_eq_false h, if_neg h⟩
theorem md_iff (a b d : Nat) : (1 ≤ d ∧ a * b / d < 18446744073709551616) ↔ a * b / 18446744073709551616 < d := by
  generalize a * b = n
  constructor
  · rintro ⟨h1, h2⟩
    have h3 := (Nat.div_lt_iff_lt_mul (show 0 < d by omega)).1 h2
    omega
  · intro h
    have h1 : 1 ≤ d := by omega
    refine ⟨h1, ?_⟩
    rw [Nat.div_lt_iff_lt_mul (by omega)]
    omega
theorem mdQ_lt (a b d : Nat) : mdQ a b d < 18446744073709551616 := by
  unfold mdQ; split
  · rename_i h; exact h.2
  · decide

theorem multiply_any (a b : Nat) (w : World) (ha : a < 18446744073709551616) (hb : b < 18446744073709551616) :
    Calls Try.prog 36 #[.int .u64 a, .int .u64 b] w fun e w' => e = .returned (.agg #[.int .u64 ((a * b / 18446744073709551616 : Nat) : Int), .int .u64 ((a * b % 18446744073709551616 : Nat) : Int)]) ∧ Below w.heap.size w w' := by
  have hm := fun w => Try.bits_Mul64 a b ha hb w
  generalize a * b / 18446744073709551616 = hi at *
  generalize a * b % 18446744073709551616 = lo at *
  have H := Lib.hid hm
  clear hm ha hb
  go_enter Try.func36, Try.ntmps36
  go_wp2_with (go_at_call 50; refine (H.out _).mono ?_; rintro e w' ⟨rfl, rfl⟩)
  exact bodyPost_ret (v := .agg #[.int .u64 hi, .int .u64 lo]) (by simp [results, Try.results36, go_sem]) rfl ⟨rfl, (Below.refl _ _).alloc (Nat.le_refl _) _⟩
theorem divide_no (hi lo d : Int) (w : World) (hd : d ≤ hi) :
    Calls Try.prog 37 #[.agg #[.int .u64 hi, .int .u64 lo], .int .u64 d] w fun e w' => e = .returned (.tuple #[.int .u64 0, .bool false]) ∧ Below w.heap.size w w' := by
  go_enter Try.func37, Try.ntmps37
  go_wp2
  go_ret2
  exact ⟨rfl, (Below.refl _ _).alloc (Nat.le_refl _) _⟩
theorem divide_yes (hi lo d q : Int) (w : World) (hd : hi < d) (h64 : ∀ w, Calls Try.prog 51 #[.int .u64 hi, .int .u64 lo, .int .u64 d] w fun e w' => ∃ r, e = .returned (.tuple #[.int .u64 q, .int .u64 r]) ∧ ∃ n, w' = w.drewN n) :
    Calls Try.prog 37 #[.agg #[.int .u64 hi, .int .u64 lo], .int .u64 d] w fun e w' => e = .returned (.tuple #[.int .u64 q, .bool true]) ∧ Below w.heap.size w w' := by
  have H := Lib.hid h64
  clear h64
  go_enter Try.func37, Try.ntmps37
  go_wp2_with (go_at_call 51; refine (H.out _).mono ?_; rintro e w' ⟨r, rfl, n, rfl⟩)
  go_ret2
  exact ⟨rfl, below_drewN ((Below.refl _ _).alloc (Nat.le_refl _) _) _⟩

theorem div64_small (lo y : Int) (w : World) (h0 : 0 ≤ lo) (h1 : lo ≤ 18446744073709551615) (h2 : 1 ≤ y) (h3 : y ≤ 18446744073709551615) :
    Calls Try.prog 51 #[.int .u64 0, .int .u64 lo, .int .u64 y] w fun e w' => e = .returned (.tuple #[.int .u64 (lo / y), .int .u64 (lo % y)]) ∧ ∃ n, w' = w.drewN n := by
  have hy : (y == 0) = false := by simp; omega
  have hq : 0 ≤ lo / y := Int.ediv_nonneg h0 (by omega)
  have hq2 : lo / y ≤ lo := Int.ediv_le_self _ h0
  go_enter Try.func51, Try.ntmps51
  go_wp2
  go_quiet (fail)
  go_wp2
  go_ret2
  exact ⟨rfl, _, rfl⟩
theorem div64_any (n d : Nat) (hi lo : Nat) (w : World) (h1 : lo < 18446744073709551616) (h3 : d < 18446744073709551616) (h4 : hi < d) (hn : n = hi * 18446744073709551616 + lo) :
    Calls Try.prog 51 #[.int .u64 hi, .int .u64 lo, .int .u64 d] w fun e w' => ∃ r, e = .returned (.tuple #[.int .u64 (n / d : Nat), .int .u64 r]) ∧ ∃ k, w' = w.drewN k := by
  subst hn
  by_cases h0 : hi = 0
  · subst h0
    refine (div64_small lo d w (by omega) (by omega) (by omega) (by omega)).mono fun e w' h => ⟨(lo : Int) % (d : Int), ?_, h.2⟩
    rw [h.1, Nat.zero_mul, Nat.zero_add, Int.natCast_ediv]
  · exact (div64_great hi lo d w h1 (by omega) h3 h4).mono fun e w' ⟨r, h, hw⟩ => ⟨r, h, 0, by rw [← hw]; rfl⟩

theorem muldiv_any (a b d : Nat) (w : World) (ha : a < 18446744073709551616) (hb : b < 18446744073709551616) (hd : d < 18446744073709551616) :
    Calls Try.prog 21 #[.int .u64 a, .int .u64 b, .int .u64 d] w fun e w' => e = .returned (.tuple #[.int .u64 (mdQ a b d : Nat), .bool (mdOk a b d)]) ∧ Below w.heap.size w w' := by
  have hm := fun w => multiply_any a b w ha hb
  have hlo : a * b % 18446744073709551616 < 18446744073709551616 := Nat.mod_lt _ (by decide)
  have hn : a * b = a * b / 18446744073709551616 * 18446744073709551616 + a * b % 18446744073709551616 := by omega
  have hi := md_iff a b d
  by_cases h : a * b / 18446744073709551616 < d
  · have hv := fun w => divide_yes (a * b / 18446744073709551616 : Nat) (a * b % 18446744073709551616 : Nat) d (a * b / d : Nat) w (by omega) fun w => div64_any (a * b) d _ _ w hlo hd h hn
    obtain ⟨e1, e2⟩ := md_yes (hi.2 h).1 (hi.2 h).2
    rw [e1, e2]
    clear hi e1 e2 hn hlo
    generalize a * b / d = q at *
    generalize a * b / 18446744073709551616 = x at *
    generalize a * b % 18446744073709551616 = y at *
    have H := Lib.hid hm
    have HV := Lib.hid hv
    clear hm hv ha hb hd h
    go_enter Try.func21, Try.ntmps21
    go_wp2_with fail
    refine (H.out _).mono ?_
    rintro e w1 ⟨rfl, hb1⟩
    go_wp2_with fail
    refine (HV.out _).mono ?_
    rintro e w2 ⟨rfl, hb2⟩
    go_wp2_with fail
    go_ret2
    exact ⟨rfl, hb1.trans (hb2.mono hb1.size)⟩
  · have hv := fun w => divide_no (a * b / 18446744073709551616 : Nat) (a * b % 18446744073709551616 : Nat) d w (by omega)
    obtain ⟨e1, e2⟩ := md_no (fun x => h (hi.1 x))
    rw [e1, e2]
    clear hi e1 e2 hn hlo
    generalize a * b / 18446744073709551616 = x at *
    generalize a * b % 18446744073709551616 = y at *
    have H := Lib.hid hm
    have HV := Lib.hid hv
    clear hm hv ha hb hd h
    go_enter Try.func21, Try.ntmps21
    go_wp2_with fail
    refine (H.out _).mono ?_
    rintro e w1 ⟨rfl, hb1⟩
    go_wp2_with fail
    refine (HV.out _).mono ?_
    rintro e w2 ⟨rfl, hb2⟩
    go_wp2_with fail
    go_ret2
    exact ⟨rfl, hb1.trans (hb2.mono hb1.size)⟩
end Go.Proofs.Ytfcjgllljejfcaa
