import Derived.Test.YtfcjgllljejfcaaRows
import Derived.Test.YtfcjgllljejfcaaMath
import Derived.Test.YtfcjgllljejfcaaShelf
import Derived.Laws.BitsAllLaws
import Derived.Laws.MathBits
import Derived.WalkKit
import Derived.WalkLawsBesides
import Derived.BigQuiet
import Derived.Lib.Hide
import Derived.Lib.ItoaNum
import Derived.Deep.QuietTactic
import Derived.Deep.DeepCutAuto
import Derived.Deep.CutBlock
namespace Go.Proofs.Ytfcjgllljejfcaa
open Go.RowKit
open GwMath
set_option linter.unusedVariables false
set_option maxRecDepth 100000 in
set_option maxHeartbeats 1000000 in
theorem div64_core (hi lo y : Int) (s : Int) (Y y1 y0 v L u1 u0 Q v2 Q2 : Nat) (w : World) (h0 : 0 ≤ lo) (h1 : lo ≤ 18446744073709551615) (h2 : 1 ≤ hi) (h3 : y ≤ 18446744073709551615) (h4 : hi < y) 
   (hlz : ∀ w, Calls Try.prog 55 #[.int .u64 y] w fun e w' => e = .returned (.int .i64 s) ∧ w = w') (hs0 : 0 ≤ s) (hs1 : s < 64)
   (eY : IntKind.u64.wrap (y * 2 ^ s.toNat) = (Y : Int)) (ey1 : (Y : Int) / 4294967296 = y1) (ey0 : bits BinOp.and IntKind.u64 (Y : Int) 4294967295 = (y0 : Int))
   (eL : IntKind.u64.wrap (lo * 2 ^ s.toNat) = (L : Int)) (eu1 : (L : Int) / 4294967296 = u1) (eu0 : bits BinOp.and IntKind.u64 (L : Int) 4294967295 = (u0 : Int))
   (ev : bits BinOp.or IntKind.u64 (IntKind.u64.wrap (hi * 2 ^ s.toNat)) (lo / 2 ^ (64 - s).toNat) = (v : Int))
   (ok : Hid (Ok v u1 y1 y0)) (hYy : Hid (Y = y1 * 4294967296 + y0)) (hu0 : Hid (u0 < 4294967296))
   (hQ : Hid (Q = (v * 4294967296 + u1) / (y1 * 4294967296 + y0))) (hv2 : Hid (v2 = (v * 4294967296 + u1) % (y1 * 4294967296 + y0)))
   (e21 : IntKind.u64.wrap (IntKind.u64.wrap (IntKind.u64.wrap ((v : Int) * 4294967296) + (u1 : Int)) - IntKind.u64.wrap ((Q : Int) * (Y : Int))) = (v2 : Int)) (hvlt : Hid (v2 < y1 * 4294967296 + y0))
   (efin : IntKind.u64.wrap (IntKind.u64.wrap ((Q : Int) * 4294967296) + (Q2 : Int)) = ((Q * 4294967296 + Q2 : Nat) : Int))
   (hQ2 : Hid (Q2 = (v2 * 4294967296 + u0) / (y1 * 4294967296 + y0))) :
    Calls Try.prog 51 #[.int .u64 hi, .int .u64 lo, .int .u64 y] w fun e w' => ∃ r, e = .returned (.tuple #[.int .u64 (Q * 4294967296 + Q2 : Nat), .int .u64 r]) ∧ w = w' := by
  have hy : (y == 0) = false := by simp; omega
  have hh : (hi == 0) = false := by simp; omega
  have H := Lib.hid hlz
  clear hlz
  have k1 := ok.out.lo
  have k2 := ok.out.hi
  have k3 := ok.out.hy0
  have k4 := ok.out.hv
  have k5 := ok.out.hu
  have k6 : v ≤ 18446744073709551615 := by omega
  have hd := dig_start ok.out
  generalize eq : v / y1 = q at hd
  have eq' : (v : Int) / (y1 : Int) = (q : Int) := by rw [← eq]; exact (Int.natCast_ediv v y1).symm
  have hp : q * y1 ≤ v := by rw [← eq]; exact Nat.div_mul_le_self v y1
  generalize er : v - q * y1 = r at hd
  generalize ep : q * y1 = p at hp er
  have ep' : (q : Int) * (y1 : Int) = (p : Int) := by rw [← ep]; exact (Int.natCast_mul q y1).symm
  have er' : (v : Int) - (p : Int) = (r : Int) := by omega
  have HD := Lib.hid hd
  have hq := q_le ok.out hd
  have hr := hd.lt
  clear hd eq er ep
  have c1 : (2147483648 : Int) ≤ y1 := by omega
  have c2 : (y1 : Int) ≤ 4294967295 := by omega
  have c3 : (y0 : Int) ≤ 4294967295 := by omega
  have c5 : (u1 : Int) ≤ 4294967295 := by omega
  have c6 : (v : Int) ≤ 18446744073709551615 := by omega
  have c7 : (q : Int) ≤ 4294967297 := by omega
  have c8 : (r : Int) ≤ 4294967295 := by omega
  have K4 := Lib.hid k4
  clear k1 k2 k3 k4 k5 k6 hq hr
  have E21 := Lib.hid e21
  have EF := Lib.hid efin
  clear e21 efin
  go_enter Try.func51, Try.ntmps51
  go_upto_block 0 with (go_at_call 55; refine (H.out _).mono ?_; rintro e w' ⟨rfl, rfl⟩)
  clear eY ev eL ey1 ey0 eu1 eu0
  go_cut [15, 16] (fun s15 s16 wx => s15 = .int .u64 Q ∧ w = wx)
  case first =>
    clear H eq' E21 EF
    go_wp2
    clear ep'
    go_loop [15, 16] (fun s15 s16 => ∃ q r : Nat, s15 = .int .u64 q ∧ s16 = .int .u64 r ∧ Hid (Dig v u1 y1 y0 q r)) (fun s15 _ => (intOf s15).toNat)
    case atStart => exact ⟨q, r, rfl, rfl, HD⟩
    case round =>
      clear HD c7 c8 hp er'
      obtain ⟨q, r, rfl, rfl, HD⟩ := hrel
      have hq := q_le ok.out HD.out
      have hr := HD.out.lt
      have c7 : (q : Int) ≤ 4294967297 := by omega
      have c8 : (r : Int) ≤ 4294967295 := by omega
      clear hq hr
      by_cases ht1 : (4294967296 : Int) ≤ q
      · have ht : 4294967296 ≤ q ∨ 4294967296 * r + u1 < q * y0 := .inl (by omega)
        have hq1 : 1 ≤ q := (dig_step ok.out HD.out ht).1
        have H2 := Lib.hid ht
        clear ht
        by_cases hb : (4294967296 : Int) ≤ r + y1
        · have e := dig_break ok.out HD.out H2.out (by omega)
          have e2 : (q : Int) - 1 = (Q : Int) := by rw [hQ.out]; omega
          clear e
          go_wp2
          go_meet
          exact ⟨rfl, rfl⟩
        · have HC := Lib.hid (dig_cont ok.out HD.out H2.out (by omega))
          go_wp2
          go_round
          case rel => exact ⟨q - 1, r + y1, by go_num, by go_num, HC⟩
          case measure => simp [intOf]; omega
      · have hqy : q * y0 ≤ 18446744065119617025 := by
          have : q * y0 ≤ 4294967295 * 4294967295 := Nat.mul_le_mul (by omega) (by omega)
          omega
        have hqy' : ((q * y0 : Nat) : Int) ≤ 18446744065119617025 := by omega
        clear hqy
        generalize epp : q * y0 = pp at hqy'
        have epp' : (q : Int) * (y0 : Int) = (pp : Int) := by rw [← epp]; exact (Int.natCast_mul q y0).symm
        by_cases ht2 : (4294967296 : Int) * r + u1 < pp
        · have ht : 4294967296 ≤ q ∨ 4294967296 * r + u1 < q * y0 := .inr (by rw [epp]; omega)
          have hq1 : 1 ≤ q := (dig_step ok.out HD.out ht).1
          have H2 := Lib.hid ht
          clear ht epp
          by_cases hb : (4294967296 : Int) ≤ r + y1
          · have e := dig_break ok.out HD.out H2.out (by omega)
            have e2 : (q : Int) - 1 = (Q : Int) := by rw [hQ.out]; omega
            clear e
            go_wp2
            go_meet
            exact ⟨rfl, rfl⟩
          · have HC := Lib.hid (dig_cont ok.out HD.out H2.out (by omega))
            go_wp2
            go_round
            case rel => exact ⟨q - 1, r + y1, by go_num, by go_num, HC⟩
            case measure => simp [intOf]; omega
        · have e := dig_end ok.out HD.out (by omega) (by rw [epp]; omega)
          obtain rfl : q = Q := by rw [hQ.out]; exact e
          clear e epp
          go_wp2
          go_meet
          exact ⟨rfl, rfl⟩
  case rest =>
    obtain ⟨rfl, rfl⟩ := hcut
    clear H HD c6 c7 c8 c5 hp er' ep' eq'
    have e21 := E21.out
    have ok2 : Hid (Ok v2 u0 y1 y0) := Lib.hid ⟨ok.out.lo, ok.out.hi, ok.out.hy0, hvlt.out, hu0.out⟩
    have hd := dig_start ok2.out
    have k4 := ok2.out.hv
    have k1 := ok2.out.hi
    have k2 := ok2.out.hy0
    have c6 : (v2 : Int) ≤ 18446744073709551615 := by omega
    have c5 : (u0 : Int) ≤ 4294967295 := by have := ok2.out.hu; omega
    generalize eq : v2 / y1 = q at hd
    have eq' : (v2 : Int) / (y1 : Int) = (q : Int) := by rw [← eq]; exact (Int.natCast_ediv v2 y1).symm
    have hp : q * y1 ≤ v2 := by rw [← eq]; exact Nat.div_mul_le_self v2 y1
    generalize er : v2 - q * y1 = r at hd
    generalize ep : q * y1 = p at hp er
    have ep' : (q : Int) * (y1 : Int) = (p : Int) := by rw [← ep]; exact (Int.natCast_mul q y1).symm
    have er' : (v2 : Int) - (p : Int) = (r : Int) := by omega
    have HD := Lib.hid hd
    have hq := q_le ok2.out hd
    have hr := hd.lt
    have c7 : (q : Int) ≤ 4294967297 := by omega
    have c8 : (r : Int) ≤ 4294967295 := by omega
    clear hd eq er ep k4 k1 k2 hq hr
    go_upto_block 2 with fail
    clear e21
    go_cut [16, 18] (fun s16 s18 wx => s18 = .int .u64 Q2 ∧ w = wx)
    case first =>
      clear E21 EF eq'
      go_wp2
      clear ep'
      go_loop [16, 18] (fun s16 s18 => ∃ q r : Nat, s18 = .int .u64 q ∧ s16 = .int .u64 r ∧ Hid (Dig v2 u0 y1 y0 q r)) (fun _ s18 => (intOf s18).toNat)
      case atStart => exact ⟨q, r, rfl, rfl, HD⟩
      case round =>
        clear HD c7 c8 hp er'
        obtain ⟨q, r, rfl, rfl, HD⟩ := hrel
        have hq := q_le ok2.out HD.out
        have hr := HD.out.lt
        have c7 : (q : Int) ≤ 4294967297 := by omega
        have c8 : (r : Int) ≤ 4294967295 := by omega
        clear hq hr
        by_cases ht1 : (4294967296 : Int) ≤ q
        · have ht : 4294967296 ≤ q ∨ 4294967296 * r + u0 < q * y0 := .inl (by omega)
          have hq1 : 1 ≤ q := (dig_step ok2.out HD.out ht).1
          have H2 := Lib.hid ht
          clear ht
          by_cases hb : (4294967296 : Int) ≤ r + y1
          · have e := dig_break ok2.out HD.out H2.out (by omega)
            have e2 : (q : Int) - 1 = (Q2 : Int) := by rw [hQ2.out]; omega
            clear e
            go_wp2
            go_meet
            exact ⟨rfl, rfl⟩
          · have HC := Lib.hid (dig_cont ok2.out HD.out H2.out (by omega))
            go_wp2
            go_round
            case rel => exact ⟨q - 1, r + y1, by go_num, by go_num, HC⟩
            case measure => simp [intOf]; omega
        · have hqy : q * y0 ≤ 18446744065119617025 := by
            have : q * y0 ≤ 4294967295 * 4294967295 := Nat.mul_le_mul (by omega) (by omega)
            omega
          have hqy' : ((q * y0 : Nat) : Int) ≤ 18446744065119617025 := by omega
          clear hqy
          generalize epp : q * y0 = pp at hqy'
          have epp' : (q : Int) * (y0 : Int) = (pp : Int) := by rw [← epp]; exact (Int.natCast_mul q y0).symm
          by_cases ht2 : (4294967296 : Int) * r + u0 < pp
          · have ht : 4294967296 ≤ q ∨ 4294967296 * r + u0 < q * y0 := .inr (by rw [epp]; omega)
            have hq1 : 1 ≤ q := (dig_step ok2.out HD.out ht).1
            have H2 := Lib.hid ht
            clear ht epp
            by_cases hb : (4294967296 : Int) ≤ r + y1
            · have e := dig_break ok2.out HD.out H2.out (by omega)
              have e2 : (q : Int) - 1 = (Q2 : Int) := by rw [hQ2.out]; omega
              clear e
              go_wp2
              go_meet
              exact ⟨rfl, rfl⟩
            · have HC := Lib.hid (dig_cont ok2.out HD.out H2.out (by omega))
              go_wp2
              go_round
              case rel => exact ⟨q - 1, r + y1, by go_num, by go_num, HC⟩
              case measure => simp [intOf]; omega
          · have e := dig_end ok2.out HD.out (by omega) (by rw [epp]; omega)
            obtain rfl : q = Q2 := by rw [hQ2.out]; exact e
            clear e epp
            go_wp2
            go_meet
            exact ⟨rfl, rfl⟩
    case rest =>
      obtain ⟨rfl, rfl⟩ := hcut
      have ef := EF.out
      go_wp2
      go_ret2
      exact ⟨_, rfl, rfl⟩
theorem wrap_id (n : Nat) (h : n < 18446744073709551616) : IntKind.u64.wrap (n : Int) = (n : Int) := IntWalk.u64_in _ (by omega)
theorem wrap_mod (n : Nat) : IntKind.u64.wrap (n : Int) = ((n % 18446744073709551616 : Nat) : Int) := by rw [IntKind.wrap_u64]; omega
theorem wrap_rest (v u p r : Nat) (h1 : v * 4294967296 + u - p = r) (h2 : p ≤ v * 4294967296 + u) (h3 : r < 18446744073709551616) :
    IntKind.u64.wrap (IntKind.u64.wrap (IntKind.u64.wrap ((v : Int) * 4294967296) + (u : Int)) - IntKind.u64.wrap (p : Int)) = (r : Int) := by
  simp only [IntKind.wrap_u64]
  omega
theorem or_parts (a b s : Nat) (ha : a * 2 ^ s < 18446744073709551616) (hb : b < 2 ^ s) (hb2 : b < 18446744073709551616) : bits .or .u64 ((a * 2 ^ s : Nat) : Int) (b : Int) = ((a * 2 ^ s + b : Nat) : Int) := by
  rw [u64_or_nat _ _ ha hb2, Nat.mul_comm a, ← Nat.two_pow_add_eq_or_of_lt hb]
theorem div64_great (hi lo y : Nat) (w : World) (h1 : lo < 18446744073709551616) (h2 : 1 ≤ hi) (h3 : y < 18446744073709551616) (h4 : hi < y) :
    Calls Try.prog 51 #[.int .u64 hi, .int .u64 lo, .int .u64 y] w fun e w' => ∃ r, e = .returned (.tuple #[.int .u64 ((hi * 18446744073709551616 + lo) / y : Nat), .int .u64 r]) ∧ w = w' := by
  have hlz : ∀ w, Calls Try.prog 55 #[.int .u64 y] w fun e w' => e = .returned (.int .i64 (64 - (Lib.bitLen (y : Int).toNat : Int))) ∧ w = w' := fun w =>
    (Try.bits_LeadingZeros64 y w (by omega) (by omega)).mono fun e w' h => ⟨h.1, h.2.symm⟩
  obtain ⟨b1, b2, b3⟩ := Lib.bitLenAux_bounds 64 y h3 (by omega)
  have b4 : Lib.bitLenAux 64 y ≤ 64 := Lib.bitLen_le y 64 (Nat.le_refl _) h3
  rw [Int.toNat_natCast] at hlz
  unfold Lib.bitLen at hlz
  generalize Lib.bitLenAux 64 y = t at *
  obtain ⟨s, hs⟩ : ∃ s, s + t = 64 := ⟨64 - t, by omega⟩
  have es : (64 : Int) - (t : Int) = (s : Int) := by omega
  rw [es] at hlz
  have hST : 2 ^ s * 2 ^ t = 18446744073709551616 := by rw [← Nat.pow_add, hs]
  have hT2 : 2 ^ t = 2 * 2 ^ (t - 1) := by rw [← Nat.pow_succ']; congr 1; omega
  have hT : 0 < 2 ^ t := Nat.two_pow_pos t
  have hS : 0 < 2 ^ s := Nat.two_pow_pos s
  have pS : (2 : Int) ^ s = ((2 ^ s : Nat) : Int) := by simp
  have pT : (2 : Int) ^ t = ((2 ^ t : Nat) : Int) := by simp
  have eT : ((64 : Int) - (s : Int)).toNat = t := by omega
  have hY1 : y * 2 ^ s < 18446744073709551616 := by rw [← hST, Nat.mul_comm]; exact Nat.mul_lt_mul_of_pos_left b3 hS
  have hY2 : 9223372036854775808 ≤ y * 2 ^ s := by
    have : 2 ^ s * (2 * 2 ^ (t - 1)) ≤ 2 ^ s * (2 * y) := Nat.mul_le_mul_left _ (by omega)
    rw [← hT2, hST] at this
    have e : 2 ^ s * (2 * y) = 2 * (y * 2 ^ s) := by rw [Nat.mul_comm, Nat.mul_assoc]
    omega
  have hlo : lo / 2 ^ t < 2 ^ s := by rw [Nat.div_lt_iff_lt_mul hT, hST]; exact h1
  have hhi : hi * 2 ^ s + 2 ^ s ≤ y * 2 ^ s := by rw [← Nat.succ_mul]; exact Nat.mul_le_mul_right _ h4
  have hN : (hi * 18446744073709551616 + lo) * 2 ^ s = (hi * 2 ^ s + lo / 2 ^ t) * 18446744073709551616 + lo * 2 ^ s % 18446744073709551616 := by
    have e1 : lo * 2 ^ s / 18446744073709551616 = lo / 2 ^ t := by rw [← hST, Nat.mul_comm]; exact Nat.mul_div_mul_left _ _ hS
    have e2 := Nat.div_add_mod (lo * 2 ^ s) 18446744073709551616
    rw [e1] at e2
    have e3 : hi * 18446744073709551616 * 2 ^ s = hi * 2 ^ s * 18446744073709551616 := by rw [Nat.mul_assoc, Nat.mul_comm 18446744073709551616, Nat.mul_assoc]
    rw [Nat.add_mul, e3]
    omega
  have hfin : (hi * 18446744073709551616 + lo) / y = ((hi * 2 ^ s + lo / 2 ^ t) * 18446744073709551616 + lo * 2 ^ s % 18446744073709551616) / (y * 2 ^ s) := by
    rw [← hN]; exact (Nat.mul_div_mul_right _ _ hS).symm
  have eY : IntKind.u64.wrap ((y : Int) * 2 ^ (s : Int).toNat) = ((y * 2 ^ s : Nat) : Int) := by
    rw [Int.toNat_natCast, pS, ← Int.natCast_mul]; exact wrap_id _ hY1
  have eL : IntKind.u64.wrap ((lo : Int) * 2 ^ (s : Int).toNat) = ((lo * 2 ^ s % 18446744073709551616 : Nat) : Int) := by
    rw [Int.toNat_natCast, pS, ← Int.natCast_mul]; exact wrap_mod _
  have ev : bits BinOp.or IntKind.u64 (IntKind.u64.wrap ((hi : Int) * 2 ^ (s : Int).toNat)) ((lo : Int) / 2 ^ ((64 : Int) - (s : Int)).toNat) = ((hi * 2 ^ s + lo / 2 ^ t : Nat) : Int) := by
    rw [Int.toNat_natCast, eT, pS, pT, ← Int.natCast_mul, wrap_id _ (by omega), ← Int.natCast_ediv]
    exact or_parts hi (lo / 2 ^ t) s (by omega) hlo (Nat.lt_of_le_of_lt (Nat.div_le_self _ _) h1)
  have hL : lo * 2 ^ s % 18446744073709551616 < 18446744073709551616 := Nat.mod_lt _ (by decide)
  have hv : hi * 2 ^ s + lo / 2 ^ t < y * 2 ^ s := by omega
  rw [hfin]
  generalize y * 2 ^ s = Y at *
  generalize hi * 2 ^ s + lo / 2 ^ t = v at *
  generalize lo * 2 ^ s % 18446744073709551616 = L at *
  clear hfin hN hhi hlo hST hT2 b2 b3 pS pT eT
  have a1 : (Y : Int) / 4294967296 = ((Y / 4294967296 : Nat) : Int) := by omega
  have a0 : bits BinOp.and IntKind.u64 (Y : Int) 4294967295 = ((Y % 4294967296 : Nat) : Int) := by rw [and_low32 _ (by omega) (by omega)]; omega
  have d1 : (L : Int) / 4294967296 = ((L / 4294967296 : Nat) : Int) := by omega
  have d0 : bits BinOp.and IntKind.u64 (L : Int) 4294967295 = ((L % 4294967296 : Nat) : Int) := by rw [and_low32 _ (by omega) (by omega)]; omega
  have hYe : Y = Y / 4294967296 * 4294967296 + Y % 4294967296 := by omega
  have hLe : v * 18446744073709551616 + L = v * 18446744073709551616 + L / 4294967296 * 4294967296 + L % 4294967296 := by omega
  have ok : Ok v (L / 4294967296) (Y / 4294967296) (Y % 4294967296) := ⟨by omega, by omega, by omega, by omega, by omega⟩
  have hu0 : L % 4294967296 < 4294967296 := by omega
  have hY0 : 0 < Y := by omega
  rw [hLe]
  clear hLe
  generalize Y / 4294967296 = y1 at *
  generalize Y % 4294967296 = y0 at *
  generalize L / 4294967296 = u1 at *
  generalize L % 4294967296 = u0 at *
  subst hYe
  obtain ⟨Q, hQ⟩ : ∃ Q, Q = (v * 4294967296 + u1) / (y1 * 4294967296 + y0) := ⟨_, rfl⟩
  obtain ⟨v2, hV2⟩ : ∃ v2, v2 = (v * 4294967296 + u1) % (y1 * 4294967296 + y0) := ⟨_, rfl⟩
  obtain ⟨Q2, hQ2⟩ : ∃ Q2, Q2 = (v2 * 4294967296 + u0) / (y1 * 4294967296 + y0) := ⟨_, rfl⟩
  have hres := digits_named hY0 hQ hV2 hQ2
  rw [hres]
  have hr := rest_named hY0 (by omega) hQ hV2
  have hv2 := hr.2.2
  have hQlt := true_named ok hQ
  have hQ2lt := true_named (v := v2) (u := u0) ⟨ok.lo, ok.hi, ok.hy0, hv2, hu0⟩ hQ2
  have g1 : IntKind.u64.wrap (IntKind.u64.wrap (IntKind.u64.wrap ((v : Int) * 4294967296) + (u1 : Int)) - IntKind.u64.wrap ((Q : Int) * ((y1 * 4294967296 + y0 : Nat) : Int))) = (v2 : Int) := by
    have e1 : (Q : Int) * ((y1 * 4294967296 + y0 : Nat) : Int) = ((Q * (y1 * 4294967296 + y0) : Nat) : Int) := (Int.natCast_mul _ _).symm
    rw [e1]
    exact wrap_rest v u1 _ v2 hr.1 hr.2.1 (by omega)
  have g2 : IntKind.u64.wrap (IntKind.u64.wrap ((Q : Int) * 4294967296) + (Q2 : Int)) = ((Q * 4294967296 + Q2 : Nat) : Int) := by
    simp only [IntKind.wrap_u64]
    omega
  have t1 : (0 : Int) ≤ lo := by omega
  have t2 : (lo : Int) ≤ 18446744073709551615 := by omega
  have t3 : (1 : Int) ≤ hi := by omega
  have t4 : (y : Int) ≤ 18446744073709551615 := by omega
  have t5 : (hi : Int) < y := by omega
  have t6 : (0 : Int) ≤ s := by omega
  have t7 : (s : Int) < 64 := by omega
  have K1 := Lib.hid ok
  have K2 := Lib.hid hu0
  have K3 := Lib.hid hQ
  have K4 := Lib.hid hV2
  have K5 := Lib.hid hv2
  have K6 := Lib.hid hQ2
  have K7 : Hid (y1 * 4294967296 + y0 = y1 * 4294967296 + y0) := Lib.hid rfl
  exact div64_core hi lo y s (y1 * 4294967296 + y0) y1 y0 v L u1 u0 Q v2 Q2 w t1 t2 t3 t4 t5 hlz t6 t7 eY a1 a0 eL d1 d0 ev K1 K7 K2 K3 K4 g1 K5 g2 K6
end Go.Proofs.Ytfcjgllljejfcaa
