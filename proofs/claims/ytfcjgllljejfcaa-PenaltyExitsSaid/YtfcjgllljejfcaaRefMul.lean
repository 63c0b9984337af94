/- The reference's MulDiv returns the same quotient. -/
import Derived.Test.YtfcjgllljejfcaaMul
namespace Go.Proofs.Ytfcjgllljejfcaa
open Go.RowKit
open GwMath
set_option linter.unusedVariables false

theorem refmax_any (w : World) : Calls Try.prog 38 #[] w fun e w' => e = .returned (.int .u64 18446744073709551615) ∧ w = w' := by
  go_enter Try.func38, Try.ntmps38
  go_wp2
  go_ret
  exact ⟨rfl, rfl⟩

theorem refadd_small (q r x d : Int) (w : World) (hr : 0 ≤ r) (hx : 0 ≤ x) (hxd : x ≤ d) (hd : d ≤ 18446744073709551615) (h : r < d - x) :
    Calls Try.prog 39 #[.int .u64 q, .int .u64 r, .int .u64 x, .int .u64 d] w fun e w' => e = .returned (.tuple #[.int .u64 q, .int .u64 (r + x), .bool true]) ∧ w = w' := by
  go_enter Try.func39, Try.ntmps39
  go_wp2
  go_ret3
  exact ⟨rfl, rfl⟩
theorem refadd_more (q r x d : Int) (w : World) (hq0 : 0 ≤ q) (hq1 : q ≤ 18446744073709551614) (hr : 0 ≤ r) (hr2 : r ≤ d) (hx : 0 ≤ x) (hxd : x ≤ d) (hd : d ≤ 18446744073709551615) (h : d - x ≤ r) :
    Calls Try.prog 39 #[.int .u64 q, .int .u64 r, .int .u64 x, .int .u64 d] w fun e w' => e = .returned (.tuple #[.int .u64 (q + 1), .int .u64 (r - (d - x)), .bool true]) ∧ w = w' := by
  go_enter Try.func39, Try.ntmps39
  go_wp2_with (go_at_call 38; refine (refmax_any _).mono ?_; rintro e w' ⟨rfl, rfl⟩)
  go_ret3
  exact ⟨rfl, rfl⟩
theorem refadd_over (r x d : Int) (w : World) (hr : 0 ≤ r) (hr2 : r ≤ d) (hx : 0 ≤ x) (hxd : x ≤ d) (hd : d ≤ 18446744073709551615) (h : d - x ≤ r) :
    Calls Try.prog 39 #[.int .u64 18446744073709551615, .int .u64 r, .int .u64 x, .int .u64 d] w fun e w' => e = .returned (.tuple #[.int .u64 0, .int .u64 0, .bool false]) ∧ w = w' := by
  go_enter Try.func39, Try.ntmps39
  go_wp2_with (go_at_call 38; refine (refmax_any _).mono ?_; rintro e w' ⟨rfl, rfl⟩)
  go_ret3
  exact ⟨rfl, rfl⟩
theorem refadd_fit (q r x d q' r' : Nat) (w : World) (hq : q' = q + (if r < d - x then 0 else 1)) (hr' : r' = if r < d - x then r + x else r - (d - x)) (hq' : q' < 18446744073709551616) (hd : d < 18446744073709551616) (hr : r < d) (hx : x ≤ d) :
    Calls Try.prog 39 #[.int .u64 q, .int .u64 r, .int .u64 x, .int .u64 d] w fun e w' => e = .returned (.tuple #[.int .u64 q', .int .u64 r', .bool true]) ∧ w = w' := by
  by_cases h : r < d - x
  · rw [if_pos h] at hq hr'
    exact (refadd_small q r x d w (by omega) (by omega) (by omega) (by omega) (by omega)).mono fun e w' ⟨h1, h2⟩ => ⟨by rw [h1, hq, hr']; simp, h2⟩
  · rw [if_neg h] at hq hr'
    have e2 : (r : Int) - ((d : Int) - (x : Int)) = ((r - (d - x) : Nat) : Int) := by omega
    exact (refadd_more q r x d w (by omega) (by omega) (by omega) (by omega) (by omega) (by omega) (by omega) (by omega)).mono fun e w' ⟨h1, h2⟩ => ⟨by rw [h1, e2, hq, hr']; simp, h2⟩

/-- One bit more: what the round's tests say. -/
theorem rem_lt (a p d : Nat) (hd : 1 ≤ d) : rem a p d < d := Nat.mod_lt _ hd
theorem quo_low {a b p d q : Nat} (h1 : q ≤ quo a p d) (h2 : p ≤ b) (h3 : 18446744073709551616 ≤ q) : ¬ (1 ≤ d ∧ a * b / d < 18446744073709551616) := by
  rintro ⟨_, h⟩
  have := quo_mono a d h2
  unfold quo at *
  omega
theorem prefix_le (b j : Nat) : b / 2 ^ j ≤ b := Nat.div_le_self _ _
theorem prefix_bit (b j : Nat) : b / 2 ^ j = 2 * (b / 2 ^ (j + 1)) + b / 2 ^ j % 2 := by
  rw [Nat.pow_succ, ← Nat.div_div_eq_div_mul]; omega

theorem start_bits (a b d : Nat) (hb : b < 2 ^ 64) : 0 = quo a (b / 2 ^ 64) d ∧ 0 = rem a (b / 2 ^ 64) d ∧ 0 < 18446744073709551616 := by
  rw [Nat.div_eq_of_lt hb]; simp [quo, rem]
theorem u64_and_one (x : Nat) (h : x < 18446744073709551616) : bits .and .u64 (x : Int) 1 = ((x % 2 : Nat) : Int) := by
  have := u64_and_nat x 1 h (by decide)
  rw [Nat.and_one_is_mod] at this
  exact this

set_option maxHeartbeats 1000000 in
theorem refmuldiv_any (a b d : Nat) (w : World) (ha : a < 18446744073709551616) (hb : b < 18446744073709551616) (hd : d < 18446744073709551616) :
    Calls Try.prog 22 #[.int .u64 a, .int .u64 b, .int .u64 d] w fun e w' => e = .returned (.tuple #[.int .u64 (mdQ a b d : Nat), .bool (mdOk a b d)]) ∧ w = w' := by
  by_cases h0 : d = 0
  · subst h0
    obtain ⟨e1, e2⟩ := md_no (a := a) (b := b) (d := 0) (by omega)
    rw [e1, e2]
    go_enter Try.func22, Try.ntmps22
    go_wp2
    go_ret2
    exact ⟨rfl, rfl⟩
  · have hd1 : 1 ≤ d := by omega
    have c1 : (d : Int) ≤ 18446744073709551615 := by omega
    have c2 : (a : Int) ≤ 18446744073709551615 := by omega
    have c3 : (b : Int) ≤ 18446744073709551615 := by omega
    have c4 : ((d : Int) == 0) = false := by simp; omega
    have HD := Lib.hid hd
    clear ha hb hd h0
    go_enter Try.func22, Try.ntmps22
    go_wp2
    go_loop [8, 9, 10] (fun s8 s9 s10 => ∃ k q r : Nat, k ≤ 64 ∧ s10 = .int .i64 ((k : Int) - 1) ∧ s8 = .int .u64 q ∧ s9 = .int .u64 r ∧ Hid (q = quo a (b / 2 ^ k) d ∧ r = rem a (b / 2 ^ k) d ∧ q < 18446744073709551616)) (fun _ _ s10 => (intOf s10 + 1).toNat)
    case atStart => exact ⟨64, 0, 0, by omega, by go_num, rfl, rfl, Lib.hid (start_bits a b d (by omega))⟩
    case round =>
      obtain ⟨k, q, r, hk, rfl, rfl, rfl, HI⟩ := hrel
      by_cases hk0 : k = 0
      · subst hk0
        have e := md_yes (a := a) (b := b) hd1 (by have := HI.out.2.2; rw [HI.out.1] at this; simpa [quo] using this)
        have hq : mdQ a b d = q := by rw [e.2, HI.out.1]; simp [quo]
        have ho := e.1
        have HQ := Lib.hid hq
        have HO := Lib.hid ho
        clear hq ho e
        go_wp2
        go_ret2
        exact ⟨by rw [HQ.out, HO.out]; rfl, rfl⟩
      · obtain ⟨j, rfl⟩ : ∃ j, k = j + 1 := ⟨k - 1, by omega⟩
        have hpb := prefix_bit b j
        have hple := prefix_le b j
        have hbit : bits .and .u64 ((b : Int) / 2 ^ j) 1 = ((b / 2 ^ j % 2 : Nat) : Int) := by
          rw [show (2 : Int) ^ j = ((2 ^ j : Nat) : Int) by simp, ← Int.natCast_ediv, u64_and_one _ (Nat.lt_of_le_of_lt hple (by omega))]
        obtain ⟨p, hp⟩ : ∃ p, p = b / 2 ^ (j + 1) := ⟨_, rfl⟩
        obtain ⟨p', hp'⟩ : ∃ p', p' = b / 2 ^ j := ⟨_, rfl⟩
        rw [← hp', ← hp] at hpb
        rw [← hp'] at hbit hple
        rw [← hp] at HI
        have hrl : r < d := by rw [HI.out.2.1]; exact rem_lt _ _ _ hd1
        have hq64 : (q : Int) ≤ 18446744073709551615 := by have := HI.out.2.2; omega
        by_cases hbig : 9223372036854775807 < (q : Int)
        · have e := md_no (quo_low (p := p') (b := b) (q := 2 * q) (by rw [HI.out.1]; exact Nat.le_trans (by rw [(twice a p d hd1).1]; omega) (quo_mono a d (p := 2 * p) (by omega))) hple (by omega))
          have HE := Lib.hid e
          clear e hpb hbit
          go_wp2_with (go_at_call 38; refine (refmax_any _).mono ?_; rintro e w' ⟨rfl, rfl⟩)
          go_ret2
          exact ⟨by rw [HE.out.1, HE.out.2]; rfl, rfl⟩
        · obtain ⟨q3, hq3⟩ : ∃ q3, q3 = quo a (2 * p) d := ⟨_, rfl⟩
          obtain ⟨r3, hr3⟩ : ∃ r3, r3 = rem a (2 * p) d := ⟨_, rfl⟩
          have tw := twice a p d hd1
          rw [← hq3, ← hr3, ← HI.out.1, ← HI.out.2.1] at tw
          have hq3l : q3 < 18446744073709551616 := by rw [tw.1]; split <;> omega
          have hr3l : r3 < d := by rw [hr3]; exact rem_lt _ _ _ hd1
          have hA := fun w => refadd_fit (2 * q) r r d q3 r3 w tw.1 tw.2 hq3l HD.out hrl (Nat.le_of_lt hrl)
          have hA' : ∀ w, Calls Try.prog 39 #[.int .u64 (2 * (q : Int)), .int .u64 r, .int .u64 r, .int .u64 d] w fun e w' => e = .returned (.tuple #[.int .u64 q3, .int .u64 r3, .bool true]) ∧ w = w' := fun w => by
            have := hA w; rwa [Int.natCast_mul] at this
          have HA := Lib.hid hA'
          have c5 : (q3 : Int) ≤ 18446744073709551615 := by omega
          have HP' := Lib.hid hp'
          have HQ3 := Lib.hid hq3
          have HR3 := Lib.hid hr3
          have HTW := Lib.hid tw
          have HPB := Lib.hid hpb
          have HRL := Lib.hid hr3l
          have HBI := Lib.hid hbit
          clear hA hA' tw hr3l hrl hpb hp hp' hq3 hr3 hbit hq3l
          by_cases hz : p' % 2 = 0
          · have hbit : (bits .and .u64 ((b : Int) / 2 ^ j) 1 == 1) = false := by rw [HBI.out, hz]; rfl
            have hpp : p' = 2 * p := by have := HPB.out; omega
            have HN : Hid (q3 = quo a (b / 2 ^ j) d ∧ r3 = rem a (b / 2 ^ j) d ∧ q3 < 18446744073709551616) := Lib.hid ⟨by rw [← HP'.out, hpp]; exact HQ3.out, by rw [← HP'.out, hpp]; exact HR3.out, by omega⟩
            clear hpp hz hple
            go_wp2_with (go_at_call 38; refine (refmax_any _).mono ?_; rintro e w' ⟨rfl, rfl⟩)
            refine (HA.out _).mono ?_
            rintro e w' ⟨rfl, rfl⟩
            go_wp2_with fail
            go_round
            case rel => exact ⟨j, q3, r3, by omega, rfl, rfl, rfl, HN⟩
            case measure => simp [intOf]
          · have hbit : (bits .and .u64 ((b : Int) / 2 ^ j) 1 == 1) = true := by rw [HBI.out, show p' % 2 = 1 by omega]; rfl
            have hpp : p' = 2 * p + 1 := by have := HPB.out; omega
            obtain ⟨z, hz1⟩ : ∃ z, z = a / d := ⟨_, rfl⟩
            obtain ⟨x, hx1⟩ : ∃ x, x = a % d := ⟨_, rfl⟩
            have hxd : x < d := by rw [hx1]; exact Nat.mod_lt _ hd1
            have om := once_more a (2 * p) d hd1
            rw [← HQ3.out, ← HR3.out, ← hz1, ← hx1] at om
            have ez : (a : Int) / (d : Int) = (z : Int) := by rw [hz1, Int.natCast_ediv]
            have ex : (a : Int) % (d : Int) = (x : Int) := by rw [hx1, Int.natCast_emod]
            have c6 : (z : Int) ≤ 18446744073709551615 := by have := Nat.div_le_self a d; omega
            have hr3d := HRL.out
            obtain ⟨q5, hq5⟩ : ∃ q5, q5 = quo a (2 * p + 1) d := ⟨_, rfl⟩
            obtain ⟨r5, hr5⟩ : ∃ r5, r5 = rem a (2 * p + 1) d := ⟨_, rfl⟩
            rw [← hq5, ← hr5] at om
            by_cases hb2 : (18446744073709551615 : Int) - (q3 : Int) < (z : Int)
            · have e := md_no (quo_low (p := p') (b := b) (q := q3 + z) (d := d) (a := a) (by rw [hpp, ← hq5, om.1]; exact Nat.le_add_right _ _) hple (by omega))
              have HE := Lib.hid e
              clear e hpp hple om hq5 hr5 hz hz1 hx1 hr3d hxd
              go_wp2_with (go_at_call 38; refine (refmax_any _).mono ?_; rintro e w' ⟨rfl, rfl⟩)
              refine (HA.out _).mono ?_
              rintro e w' ⟨rfl, rfl⟩
              go_wp2_with (go_at_call 38; refine (refmax_any _).mono ?_; rintro e w' ⟨rfl, rfl⟩)
              go_ret2
              exact ⟨by rw [HE.out.1, HE.out.2]; rfl, rfl⟩
            · by_cases hfit : q5 < 18446744073709551616
              · have hB : ∀ w, Calls Try.prog 39 #[.int .u64 ((q3 : Int) + (z : Int)), .int .u64 r3, .int .u64 x, .int .u64 d] w fun e w' => e = .returned (.tuple #[.int .u64 q5, .int .u64 r5, .bool true]) ∧ w = w' := fun w => by
                  have := refadd_fit (q3 + z) r3 x d q5 r5 w om.1 om.2 hfit HD.out hr3d (Nat.le_of_lt hxd)
                  rwa [Int.natCast_add] at this
                have HB := Lib.hid hB
                have HN : Hid (q5 = quo a (b / 2 ^ j) d ∧ r5 = rem a (b / 2 ^ j) d ∧ q5 < 18446744073709551616) := Lib.hid ⟨by rw [← HP'.out, hpp]; exact hq5, by rw [← HP'.out, hpp]; exact hr5, hfit⟩
                clear hB hpp hple om hq5 hr5 hz hz1 hx1 hr3d hxd hfit
                go_wp2_with (go_at_call 38; refine (refmax_any _).mono ?_; rintro e w' ⟨rfl, rfl⟩)
                refine (HA.out _).mono ?_
                rintro e w' ⟨rfl, rfl⟩
                go_wp2_with (go_at_call 38; refine (refmax_any _).mono ?_; rintro e w' ⟨rfl, rfl⟩)
                refine (HB.out _).mono ?_
                rintro e w' ⟨rfl, rfl⟩
                go_wp2_with fail
                go_round
                case rel => exact ⟨j, q5, r5, by omega, rfl, rfl, rfl, HN⟩
                case measure => simp [intOf]
              · have hsum : (q3 : Int) + (z : Int) = 18446744073709551615 := by
                  have := om.1
                  split at this <;> omega
                have hge : (d : Int) - (x : Int) ≤ (r3 : Int) := by
                  have := om.1
                  split at this
                  · omega
                  · omega
                have hB : ∀ w, Calls Try.prog 39 #[.int .u64 ((q3 : Int) + (z : Int)), .int .u64 r3, .int .u64 x, .int .u64 d] w fun e w' => e = .returned (.tuple #[.int .u64 0, .int .u64 0, .bool false]) ∧ w = w' := fun w => by
                  rw [hsum]
                  exact refadd_over r3 x d w (by omega) (by omega) (by omega) (by omega) (by omega) hge
                have HB := Lib.hid hB
                have e := md_no (quo_low (p := p') (b := b) (q := q5) (d := d) (a := a) (by rw [hpp, ← hq5]; exact Nat.le_refl _) hple (by omega))
                have HE := Lib.hid e
                clear e hB hpp hple om hq5 hr5 hz hz1 hx1 hr3d hxd hfit hsum hge
                go_wp2_with (go_at_call 38; refine (refmax_any _).mono ?_; rintro e w' ⟨rfl, rfl⟩)
                refine (HA.out _).mono ?_
                rintro e w' ⟨rfl, rfl⟩
                go_wp2_with (go_at_call 38; refine (refmax_any _).mono ?_; rintro e w' ⟨rfl, rfl⟩)
                refine (HB.out _).mono ?_
                rintro e w' ⟨rfl, rfl⟩
                go_wp2_with fail
                go_ret2
                exact ⟨by rw [HE.out.1, HE.out.2]; rfl, rfl⟩
end Go.Proofs.Ytfcjgllljejfcaa
