/- Plain arithmetic for layer 1: the quotient digit of a long division, and the bits of a product. No program in sight. -/
namespace Go.Proofs.Ytfcjgllljejfcaa.GwMath

/-- What holds of a quotient digit at the head of the correction loop: v = q*y1 + r, and q is not below the true digit. -/
structure Dig (v u y1 y0 q r : Nat) : Prop where
  eq : q * y1 + r = v
  le : (v * 4294967296 + u) / (y1 * 4294967296 + y0) ≤ q
  lt : r < 4294967296

structure Ok (v u y1 y0 : Nat) : Prop where
  lo : 2147483648 ≤ y1
  hi : y1 < 4294967296
  hy0 : y0 < 4294967296
  hv : v < y1 * 4294967296 + y0
  hu : u < 4294967296

theorem dig_start {v u y1 y0 : Nat} (h : Ok v u y1 y0) : Dig v u y1 y0 (v / y1) (v - v / y1 * y1) := by
  have h1 : v / y1 * y1 + v % y1 = v := by rw [Nat.mul_comm]; exact Nat.div_add_mod v y1
  have h2 : v % y1 < y1 := Nat.mod_lt _ (by have := h.lo; omega)
  have := h.hi
  refine ⟨by omega, ?_, by omega⟩
  have e : v / y1 = (v * 4294967296 + u) / (y1 * 4294967296) := by
    rw [Nat.mul_comm y1, ← Nat.div_div_eq_div_mul]
    congr 1
    have := h.hu
    omega
  rw [e]
  exact Nat.div_le_div_left (Nat.le_add_right _ _) (by have := h.lo; omega)

theorem true_lt {v u y1 y0 : Nat} (h : Ok v u y1 y0) : (v * 4294967296 + u) / (y1 * 4294967296 + y0) < 4294967296 := by
  have := h.lo; have := h.hv; have := h.hu
  rw [Nat.div_lt_iff_lt_mul (by omega)]
  omega

theorem true_named {v u y1 y0 Q : Nat} (h : Ok v u y1 y0) (hQ : Q = (v * 4294967296 + u) / (y1 * 4294967296 + y0)) : Q < 4294967296 := by
  subst hQ; exact true_lt h

theorem q_le {v u y1 y0 q r : Nat} (h : Ok v u y1 y0) (d : Dig v u y1 y0 q r) : q ≤ 4294967297 := by
  have := h.lo; have := h.hv; have := d.eq; have := h.hy0
  refine Nat.le_of_not_lt fun hq => ?_
  have : 4294967298 * y1 ≤ q * y1 := Nat.mul_le_mul_right _ hq
  omega

/-- The test says yes: the digit is too great. -/
theorem dig_test {v u y1 y0 q r : Nat} (h : Ok v u y1 y0) (d : Dig v u y1 y0 q r)
    (t : 4294967296 ≤ q ∨ 4294967296 * r + u < q * y0) : (v * 4294967296 + u) / (y1 * 4294967296 + y0) < q := by
  rcases t with t | t
  · exact Nat.lt_of_lt_of_le (true_lt h) t
  · rw [Nat.div_lt_iff_lt_mul (by have := h.lo; omega)]
    have e : q * (y1 * 4294967296 + y0) = q * y1 * 4294967296 + q * y0 := by rw [Nat.mul_add, Nat.mul_assoc]
    have := d.eq
    rw [e]
    omega

theorem dig_step {v u y1 y0 q r : Nat} (h : Ok v u y1 y0) (d : Dig v u y1 y0 q r)
    (t : 4294967296 ≤ q ∨ 4294967296 * r + u < q * y0) :
    1 ≤ q ∧ (q - 1) * y1 + (r + y1) = v ∧ (v * 4294967296 + u) / (y1 * 4294967296 + y0) ≤ q - 1 := by
  have t1 := dig_test h d t
  obtain ⟨k, rfl⟩ : ∃ k, q = k + 1 := ⟨q - 1, (Nat.succ_pred_eq_of_pos (Nat.lt_of_le_of_lt (Nat.zero_le _) t1)).symm⟩
  have := d.eq
  rw [Nat.succ_mul] at this
  exact ⟨Nat.succ_le_succ (Nat.zero_le _), by simp; omega, Nat.lt_succ_iff.1 t1⟩

theorem dig_cont {v u y1 y0 q r : Nat} (h : Ok v u y1 y0) (d : Dig v u y1 y0 q r)
    (t : 4294967296 ≤ q ∨ 4294967296 * r + u < q * y0) (hr : r + y1 < 4294967296) : Dig v u y1 y0 (q - 1) (r + y1) :=
  ⟨(dig_step h d t).2.1, (dig_step h d t).2.2, hr⟩

theorem is_of_le {v u y1 y0 q : Nat} (hY : 0 < y1 * 4294967296 + y0) (h1 : (v * 4294967296 + u) / (y1 * 4294967296 + y0) ≤ q)
    (h2 : q * (y1 * 4294967296 + y0) ≤ v * 4294967296 + u) : q = (v * 4294967296 + u) / (y1 * 4294967296 + y0) :=
  Nat.le_antisymm ((Nat.le_div_iff_mul_le hY).2 h2) h1

/-- The loop ends by its break. -/
theorem dig_break {v u y1 y0 q r : Nat} (h : Ok v u y1 y0) (d : Dig v u y1 y0 q r)
    (t : 4294967296 ≤ q ∨ 4294967296 * r + u < q * y0) (hr : 4294967296 ≤ r + y1) :
    q - 1 = (v * 4294967296 + u) / (y1 * 4294967296 + y0) := by
  obtain ⟨h1, h2, h3⟩ := dig_step h d t
  have hl := h.lo; have hv := h.hv; have h0 := h.hy0
  generalize hq' : q - 1 = k at *
  have hk : k < 4294967296 := by
    refine Nat.lt_of_not_le fun hk => ?_
    have : 4294967296 * y1 ≤ k * y1 := Nat.mul_le_mul_right _ hk
    omega
  refine is_of_le (by omega) h3 ?_
  have e : k * (y1 * 4294967296 + y0) = k * y1 * 4294967296 + k * y0 := by rw [Nat.mul_add, Nat.mul_assoc]
  have e2 : k * y0 ≤ 4294967295 * 4294967295 := Nat.mul_le_mul (by omega) (by omega)
  rw [e]
  omega

/-- The loop ends by its test. -/
theorem dig_end {v u y1 y0 q r : Nat} (h : Ok v u y1 y0) (d : Dig v u y1 y0 q r)
    (_t1 : q < 4294967296) (t2 : q * y0 ≤ 4294967296 * r + u) : q = (v * 4294967296 + u) / (y1 * 4294967296 + y0) := by
  have hl := h.lo
  refine is_of_le (by omega) d.le ?_
  have e : q * (y1 * 4294967296 + y0) = q * y1 * 4294967296 + q * y0 := by rw [Nat.mul_add, Nat.mul_assoc]
  have := d.eq
  rw [e]
  omega

/-- What is left behind a digit, modulo 2^64. -/
theorem rest_wraps (v u Y q : Nat) (hY : 0 < Y) (hY2 : Y ≤ 18446744073709551616) (h : q = (v * 4294967296 + u) / Y) :
    ((v * 4294967296 + u) - q * Y) = (v * 4294967296 + u) % Y ∧ q * Y ≤ v * 4294967296 + u ∧ (v * 4294967296 + u) % Y < Y := by
  subst h
  have h1 := Nat.div_add_mod (v * 4294967296 + u) Y
  have h2 := Nat.mod_lt (v * 4294967296 + u) hY
  rw [Nat.mul_comm] at h1
  omega

/-- Two digits make the quotient. -/
theorem two_digits (v u1 u0 Y : Nat) (hY : 0 < Y) :
    (v * 4294967296 + u1) / Y * 4294967296 + ((v * 4294967296 + u1) % Y * 4294967296 + u0) / Y = (v * 18446744073709551616 + u1 * 4294967296 + u0) / Y := by
  have h1 := Nat.div_add_mod (v * 4294967296 + u1) Y
  have e : v * 18446744073709551616 + u1 * 4294967296 + u0 = ((v * 4294967296 + u1) % Y * 4294967296 + u0) + Y * ((v * 4294967296 + u1) / Y * 4294967296) := by
    rw [← Nat.mul_assoc]
    generalize Y * ((v * 4294967296 + u1) / Y) = A at *
    omega
  rw [e, Nat.add_mul_div_left _ _ hY, Nat.add_comm]

theorem digits_named {v u1 u0 Y Q v2 Q2 : Nat} (hY : 0 < Y) (hQ : Q = (v * 4294967296 + u1) / Y) (hv2 : v2 = (v * 4294967296 + u1) % Y) (hQ2 : Q2 = (v2 * 4294967296 + u0) / Y) :
    (v * 18446744073709551616 + u1 * 4294967296 + u0) / Y = Q * 4294967296 + Q2 := by
  subst hQ2; subst hv2; subst hQ; exact (two_digits v u1 u0 Y hY).symm
theorem rest_named {v u Y q r : Nat} (hY : 0 < Y) (hY2 : Y ≤ 18446744073709551616) (hq : q = (v * 4294967296 + u) / Y) (hr : r = (v * 4294967296 + u) % Y) :
    ((v * 4294967296 + u) - q * Y) = r ∧ q * Y ≤ v * 4294967296 + u ∧ r < Y := by
  subst hr; exact rest_wraps v u Y q hY hY2 hq

/-- The dividend and the divisor may both be moved to the left. -/
theorem scaled (n y s : Nat) : (n * 2 ^ s) / (y * 2 ^ s) = n / y := Nat.mul_div_mul_right _ _ (Nat.two_pow_pos s)

/-! ### The bits of a product (the reference) -/

/-- The quotient and the remainder of a*p by d. -/
def quo (a p d : Nat) : Nat := a * p / d
def rem (a p d : Nat) : Nat := a * p % d

theorem quo_mono (a d : Nat) {p p' : Nat} (h : p ≤ p') : quo a p d ≤ quo a p' d := Nat.div_le_div_right (Nat.mul_le_mul_left _ h)

theorem twice (a p d : Nat) (hd : 0 < d) : quo a (2 * p) d = 2 * quo a p d + (if rem a p d < d - rem a p d then 0 else 1) ∧
    rem a (2 * p) d = (if rem a p d < d - rem a p d then rem a p d + rem a p d else rem a p d - (d - rem a p d)) := by
  unfold quo rem
  have h1 := Nat.div_add_mod (a * p) d
  have h2 := Nat.mod_lt (a * p) hd
  have e : a * (2 * p) = 2 * (a * p) := by rw [Nat.mul_left_comm]
  rw [e]
  generalize a * p = n at *
  generalize n % d = r at *
  generalize hq : n / d = q at *
  clear hq
  subst h1
  split
  · rename_i h
    have e2 : 2 * (d * q + r) = d * (2 * q) + (r + r) := by rw [Nat.mul_left_comm d 2 q]; omega
    rw [e2, Nat.mul_add_div hd, Nat.div_eq_of_lt (by omega), Nat.mul_add_mod, Nat.mod_eq_of_lt (by omega)]
    simp
  · rename_i h
    have e2 : 2 * (d * q + r) = d * (2 * q + 1) + (r - (d - r)) := by
      have e3 : d * (2 * q + 1) = 2 * (d * q) + d := by rw [Nat.mul_add, Nat.mul_left_comm, Nat.mul_one]
      rw [e3]; omega
    rw [e2, Nat.mul_add_div hd, Nat.div_eq_of_lt (by omega), Nat.mul_add_mod, Nat.mod_eq_of_lt (by omega)]
    simp

theorem once_more (a p d : Nat) (hd : 0 < d) : quo a (p + 1) d = quo a p d + a / d + (if rem a p d < d - a % d then 0 else 1) ∧
    rem a (p + 1) d = (if rem a p d < d - a % d then rem a p d + a % d else rem a p d - (d - a % d)) := by
  unfold quo rem
  have h1 := Nat.div_add_mod (a * p) d
  have h2 := Nat.mod_lt (a * p) hd
  have h3 := Nat.div_add_mod a d
  have h4 := Nat.mod_lt a hd
  rw [Nat.mul_add, Nat.mul_one]
  generalize a * p = n at *
  generalize n % d = r at *
  generalize a % d = x at *
  generalize hq : n / d = q at *
  generalize hz : a / d = z at *
  clear hq hz
  subst h1
  subst h3
  split
  · rename_i h
    have e2 : d * q + r + (d * z + x) = d * (q + z) + (r + x) := by rw [Nat.mul_add]; omega
    rw [e2, Nat.mul_add_div hd, Nat.div_eq_of_lt (by omega), Nat.mul_add_mod, Nat.mod_eq_of_lt (by omega)]
    simp
  · rename_i h
    have e2 : d * q + r + (d * z + x) = d * (q + z + 1) + (r - (d - x)) := by rw [Nat.mul_add, Nat.mul_add]; omega
    rw [e2, Nat.mul_add_div hd, Nat.div_eq_of_lt (by omega), Nat.mul_add_mod, Nat.mod_eq_of_lt (by omega)]
    simp

end Go.Proofs.Ytfcjgllljejfcaa.GwMath
