/- gwei.Sub, Ceil and Format, the reference's Ceil; the examples of the chapter hold. -/
import Derived.Test.YtlgnandifaenaaaDoorMul
import Derived.Test.YtlgnandifaenaaaDoorFormat
namespace Go.Proofs.YtlgnandifaenaaaDoor
open Go.RowKit Go.Lib
set_option linter.unusedVariables false

theorem sub_no (a b : Int) (w : World) (h : b > a) :
    Calls Tryd.prog 14 #[.int .u64 a, .int .u64 b] w fun e w' => e = .returned (.tuple #[.int .u64 0, .bool false]) ∧ w = w' := by
  go_enter Tryd.func14, Tryd.ntmps14
  go_wp2
  go_ret2
  exact ⟨rfl, rfl⟩
theorem sub_yes (a b : Int) (w : World) (h0 : 0 ≤ a) (h1 : a ≤ 18446744073709551615) (h2 : 0 ≤ b) (h3 : b ≤ a) :
    Calls Tryd.prog 14 #[.int .u64 a, .int .u64 b] w fun e w' => e = .returned (.tuple #[.int .u64 (a - b), .bool true]) ∧ w = w' := by
  go_enter Tryd.func14, Tryd.ntmps14
  go_wp2
  go_ret2
  exact ⟨rfl, rfl⟩
theorem ceil_zero (a : Int) (w : World) :
    Calls Tryd.prog 17 #[.int .u64 a, .int .u64 0] w fun e w' => e = .returned (.tuple #[.int .u64 0, .bool false]) ∧ w = w' := by
  go_enter Tryd.func17, Tryd.ntmps17
  go_wp2
  go_ret2
  exact ⟨rfl, rfl⟩
def ceilQ (a d : Int) : Int := if a % d = 0 then a / d else a / d + 1
theorem ceilQ_le (a d : Int) (h0 : 0 ≤ a) (h1 : a ≤ 18446744073709551615) (h2 : 1 ≤ d) (hm : ¬ a % d = 0) : a / d + 1 ≤ 18446744073709551615 := by
  by_cases e : d = 1
  · subst e; simp at hm
  · have h3 : a / d < 9223372036854775808 := Int.ediv_lt_of_lt_mul (by omega) (by
      have : 9223372036854775808 * 2 ≤ 9223372036854775808 * d := Int.mul_le_mul_of_nonneg_left (by omega) (by omega)
      omega)
    omega
theorem ceil_yes (a d : Int) (w : World) (h0 : 0 ≤ a) (h1 : a ≤ 18446744073709551615) (h2 : 1 ≤ d) (h3 : d ≤ 18446744073709551615) :
    Calls Tryd.prog 17 #[.int .u64 a, .int .u64 d] w fun e w' => e = .returned (.tuple #[.int .u64 (ceilQ a d), .bool true]) ∧ w = w' := by
  have hd : (d == 0) = false := by simp; omega
  have hq : 0 ≤ a / d := Int.ediv_nonneg h0 (by omega)
  have hq2 : a / d ≤ a := Int.ediv_le_self _ h0
  by_cases hm : a % d = 0
  · have hf : ceilQ a d = a / d := by unfold ceilQ; rw [if_pos hm]
    have HF := Lib.hid hf
    clear hf
    go_enter Tryd.func17, Tryd.ntmps17
    go_wp2
    go_ret2
    exact ⟨by rw [HF.out]; rfl, rfl⟩
  · have hq3 := ceilQ_le a d h0 h1 h2 hm
    have hf : ceilQ a d = a / d + 1 := by unfold ceilQ; rw [if_neg hm]
    have HF := Lib.hid hf
    clear hf
    go_enter Tryd.func17, Tryd.ntmps17
    go_wp2
    go_ret2
    exact ⟨by rw [HF.out]; rfl, rfl⟩
theorem refceil_zero (a : Int) (w : World) :
    Calls Tryd.prog 18 #[.int .u64 a, .int .u64 0] w fun e w' => e = .returned (.tuple #[.int .u64 0, .bool false]) ∧ w = w' := by
  go_enter Tryd.func18, Tryd.ntmps18
  go_wp2
  go_ret2
  exact ⟨rfl, rfl⟩
theorem refceil_yes (a d : Int) (w : World) (h0 : 0 ≤ a) (h1 : a ≤ 18446744073709551615) (h2 : 1 ≤ d) (h3 : d ≤ 18446744073709551615) :
    Calls Tryd.prog 18 #[.int .u64 a, .int .u64 d] w fun e w' => e = .returned (.tuple #[.int .u64 (ceilQ a d), .bool true]) ∧ w = w' := by
  have hd : (d == 0) = false := by simp; omega
  have hq : 0 ≤ a / d := Int.ediv_nonneg h0 (by omega)
  have hq2 : a / d ≤ a := Int.ediv_le_self _ h0
  have hr := Int.emod_nonneg a (show d ≠ 0 by omega)
  by_cases hm : a % d = 0
  · have hf : ceilQ a d = a / d := by unfold ceilQ; rw [if_pos hm]
    have HF := Lib.hid hf
    clear hf
    go_enter Tryd.func18, Tryd.ntmps18
    go_wp2
    go_ret2
    exact ⟨by rw [HF.out]; rfl, rfl⟩
  · have hq3 := ceilQ_le a d h0 h1 h2 hm
    have hf : ceilQ a d = a / d + 1 := by unfold ceilQ; rw [if_neg hm]
    have hr2 : 0 < a % d := by omega
    have HF := Lib.hid hf
    clear hf
    go_enter Tryd.func18, Tryd.ntmps18
    go_wp2
    go_ret2
    exact ⟨by rw [HF.out]; rfl, rfl⟩

/-- What the walks ask of the table of powers of ten. -/
def PowTab (w : World) : Prop := Lib.TabIs Tryd.prog w "internal/strconv.uint64pow10" .u64 Lib.pow10Tab
theorem tab_below {P : Program} {w w' : World} {name : String} {k : IntKind} {zs : List Int} (h : Lib.TabIs P w name k zs) (hb : Below w.heap.size w w') : Lib.TabIs P w' name k zs := by
  unfold Lib.TabIs World.var? at *
  cases hg : P.globalNamed name with
  | none => simp [hg] at h
  | some g =>
    simp only [hg, Option.bind_some] at h ⊢
    have hlt : g < w.heap.size := by
      rcases Nat.lt_or_ge g w.heap.size with h' | h'
      · exact h'
      · rw [Array.getElem?_eq_none h'] at h; simp at h
    rw [hb.block g hlt]
    exact h
theorem powTab_below {w w' : World} (h : PowTab w) (hb : Below w.heap.size w w') : PowTab w' := tab_below h hb

theorem format_any (u : Nat) (hu : u < 18446744073709551616) (w : World) (ht : PowTab w) :
    Calls Tryd.prog 21 #[.int .u64 u] w fun e w' => e = .returned (.string ⟨(Lib.decDigits u).toArray⟩) ∧ Below w.heap.size w w' := by
  have h : ∀ w, PowTab w → Calls Tryd.prog 33 #[.int .u64 u, .int .i64 10] w fun e w' => e = .returned (.string ⟨(Lib.decDigits u).toArray⟩) ∧ Below w.heap.size w w' := fun w ht =>
    (formatUint_any u hu w ht).mono fun e w' ⟨h1, k, os, h2⟩ => ⟨h1, by rw [h2]; exact Lib.below_grow _ _ (Nat.le_refl _) k os⟩
  have H := Lib.hid h
  have HT := Lib.hid ht
  clear h ht
  generalize (Lib.decDigits u).toArray = s at *
  go_enter Tryd.func21, Tryd.ntmps21
  go_wp2_with (first | (go_at_call 33; refine (H.out _ HT.out).mono ?_; rintro e w' ⟨rfl, hb⟩) | go_in)
  go_ret
  exact ⟨rfl, hb⟩

theorem alive_any (w : World) (ht : PowTab w) :
    Calls Tryd.prog 9 #[] w fun e w' => e = .returned (.bool true) ∧ Below w.heap.size w w' := by
  have h1 : ∀ w, Calls Tryd.prog 15 #[.int .u64 9223372036854775808, .int .u64 6, .int .u64 4] w fun e w' => e = .returned (.tuple #[.int .u64 13835058055282163712, .bool true]) ∧ Below w.heap.size w w' := fun w => by
    have h := muldiv_any 9223372036854775808 6 4 w (by decide) (by decide) (by decide)
    rw [show mdQ 9223372036854775808 6 4 = 13835058055282163712 by decide +kernel, show mdOk 9223372036854775808 6 4 = true by decide +kernel] at h
    exact h
  have h2 : ∀ w, Calls Tryd.prog 17 #[.int .u64 7, .int .u64 2] w fun e w' => e = .returned (.tuple #[.int .u64 4, .bool true]) ∧ w = w' := fun w => by
    have h := ceil_yes 7 2 w (by decide) (by decide) (by decide) (by decide)
    rw [show ceilQ 7 2 = 4 by decide +kernel] at h
    exact h
  have h3 : ∀ w, PowTab w → Calls Tryd.prog 21 #[.int .u64 120] w fun e w' => e = .returned (.string ⟨#[49, 50, 48]⟩) ∧ Below w.heap.size w w' := fun w ht => by
    have h := format_any 120 (by decide) w ht
    rw [show (Lib.decDigits 120).toArray = #[49, 50, 48] by simp [Lib.decDigits]] at h
    exact h
  have H1 := Lib.hid h1
  have H2 := Lib.hid h2
  have H3 := Lib.hid h3
  have HT := Lib.hid ht
  clear h1 h2 h3 ht
  go_enter Tryd.func9, Tryd.ntmps9
  go_wp2_with fail
  refine (H1.out _).mono ?_
  rintro e w1 ⟨rfl, hb1⟩
  go_wp2_with fail
  refine (H2.out _).mono ?_
  rintro e w' ⟨rfl, rfl⟩
  go_wp2_with fail
  refine (H3.out _ (powTab_below HT.out hb1)).mono ?_
  rintro e w3 ⟨rfl, hb3⟩
  go_wp2_with fail
  go_ret
  exact ⟨rfl, hb1.trans (hb3.mono hb1.size)⟩
end Go.Proofs.YtlgnandifaenaaaDoor
