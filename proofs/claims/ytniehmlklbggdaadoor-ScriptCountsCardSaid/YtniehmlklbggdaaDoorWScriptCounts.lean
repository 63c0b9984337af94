/- The statement ScriptCounts, walked: it returns true for all bytes and numbers. -/
import Derived.Test.YtniehmlklbggdaaDoorLive
namespace Go.Proofs.YtniehmlklbggdaaDoor
open Go Go.RowKit
set_option linter.unusedVariables false
set_option linter.unusedSimpArgs false
set_option maxRecDepth 100000

theorem sumK_step (l : List Oq) (k : Nat) : sumK l (k + 1) = sumK l k + cntK l (k : Int) := rfl
theorem sumK_le (l : List Oq) (n : Nat) (h : l.length ≤ n) : ∀ k, sumK l k ≤ k * n
  | 0 => by simp [sumK]
  | k + 1 => by
    have := sumK_le l n h k
    have h2 := cntK_le l (k : Int)
    rw [sumK, Nat.succ_mul]
    omega
set_option maxHeartbeats 3200000 in
theorem walk_ScriptCounts (a0 : Option Addr) (len0 cap0 : Nat) (z0 : List Int) (a1 : Int) (w : World) (w0 : IsRow .u8 w a0 len0 cap0 z0) (w1 : (Lit.int .i64 a1).wf = true) (hL : laidMetH Tryd.prog Rows.scriptDecodesRow.laid w) :
    Calls Tryd.prog 8 #[.slice a0 len0 cap0, .int .i64 a1] w fun e w' => e = .returned (.bool true) ∧ Below w.heap.size w w' := by
  have HV := Lib.hid (vars_of_laid hL)
  obtain ⟨hb, hlen, hlc, hcm⟩ := Bys.of_row (S := fun _ => False) w0 (fun _ _ h => h)
  have hcm' : cap0 ≤ 9223372036854775807 := by unfold maxLen at hcm; omega
  have HA := Lib.hid (fun w h => alive_any w h)
  clear hL w0 hcm
  by_cases hbad : 2000 < len0 ∨ 1048576 < a1
  · by_cases hbig : 2000 < len0
    · have hg : decide ((2000 : Int) < (len0 : Int)) = true := by simp; omega
      clear hbig hbad hb hlen
      go_enter Tryd.func8, Tryd.ntmps8
      go_wp2_with (fail)
      refine (HA.out w HV.out).mono ?_
      rintro e w3 ⟨rfl, b3⟩
      have B3 := Lib.hid b3
      clear b3
      go_wp2
      go_ret
      exact ⟨rfl, B3.out⟩
    · have hg : decide ((2000 : Int) < (len0 : Int)) = false := by simp; omega
      have hg2 : decide ((1048576 : Int) < a1) = true := by simp; omega
      clear hbig hbad hb hlen
      go_enter Tryd.func8, Tryd.ntmps8
      go_wp2_with (fail)
      refine (HA.out w HV.out).mono ?_
      rintro e w3 ⟨rfl, b3⟩
      have B3 := Lib.hid b3
      clear b3
      go_wp2
      go_ret
      exact ⟨rfl, B3.out⟩
  · have hg : decide ((2000 : Int) < (len0 : Int)) = false := by simp; omega
    have hg2 : decide ((1048576 : Int) < a1) = false := by simp; omega
    obtain ⟨N, hS⟩ := stopS_ex (z0.take len0)
    have hN : N ≤ 2000 := by have := stopS_le hS; omega
    have HD := Lib.hid (fun w h => decs_any (a := a0) hS hlen hlc hcm' (by omega) w h)
    have Y0 := Lib.hid hb
    obtain ⟨U, hU⟩ : ∃ U, upS (z0.take len0) N = U := ⟨_, rfl⟩
    have hUL : U.length = N := by rw [← hU, upS_len]
    have hUK : ∀ o ∈ U, 0 ≤ o.kd ∧ o.kd ≤ 7 := fun o ho => by rw [← hU] at ho; exact upS_mem ho
    have HUU := Lib.hid hU
    have HUL := Lib.hid hUL
    have HSUM : Hid (sumK U 8 = N) := Lib.hid (by rw [sumK_all hUK, hUL])
    have HC8 : Hid (cntK U 8 = 0) := Lib.hid (cntK_none fun o ho => by have := hUK o ho; omega)
    have HSL := Lib.hid (sumK_le U N (by omega))
    have HCL := Lib.hid (fun k => cntK_le U k)
    have HCT := Lib.hid (fun (kd : Int) (a : Option Addr) (cp : Nat) (w : World) (h : LstR Oq.row 4 w (fun _ => False) a U) => count_any (fun _ => False) a N cp U kd w h hUL (by omega))
    obtain ⟨c, hc⟩ : ∃ c, min (max a1 0).toNat 1048576 = c := ⟨_, rfl⟩
    have hcc : max a1 0 = (c : Int) := by omega
    have HTK := Lib.hid (fun w => ticks_any a1 w1 w)
    rw [hc] at HTK
    have hcb : c ≤ 1048576 := by omega
    have HCC : Hid (cntK (List.replicate c ⟨7, 0, 0, 0⟩) 7 = c) := Lib.hid (by
      rw [cntK_all fun o ho => by rw [List.eq_of_mem_replicate ho], List.length_replicate])
    have HCR := Lib.hid (fun (a : Option Addr) (w : World) (h : LstR Oq.row 4 w (fun _ => False) a (List.replicate c ⟨7, 0, 0, 0⟩)) => count_any (fun _ => False) a c c (List.replicate c ⟨7, 0, 0, 0⟩) 7 w h (by simp) (by omega))
    rw [HCC.out] at HCR
    clear hbad hb hlen hlc hcm' hS hU hUL hUK hc w1
    go_enter Tryd.func8, Tryd.ntmps8
    go_wp2_with (fail)
    refine (HD.out w Y0.out).mono ?_
    rintro e w2 ⟨v2, rfl, o2, b2⟩
    rw [HUU.out] at o2
    obtain ⟨a2, c2, rfl, _, _, l2⟩ := o2.lst (S := fun _ => False) HUL.out (fun _ _ h => h)
    have L2 := Lib.hid l2
    have B2 := Lib.hid b2
    clear o2 b2 l2 HD
    go_wp2_with (fail)
    go_loopw [6, 7] (fun sm kd wr => ∃ (k y : Nat), k ≤ 8 ∧ y ≤ 20000 ∧ kd = .int .i64 k ∧ sm = .int .i64 y ∧ Hid (y = sumK U k) ∧ Hid (Below w.heap.size w wr) ∧ Hid (LstR Oq.row 4 wr (fun _ => False) a2 U)) (fun _ kd _ => 8 - (intOf kd).toNat)
    case atStart => exact ⟨0, 0, by omega, by omega, rfl, rfl, Lib.hid rfl, B2, L2⟩
    case round =>
      clear B2 L2
      obtain ⟨k, y, hk, hy, rfl, rfl, HY, B3, L3⟩ := hrel
      by_cases hlt : k < 8
      · have hk7 : (k : Int) ≤ 7 := by omega
        have HST := Lib.hid (sumK_step U k)
        have HLE := Lib.hid (HSL.out (k + 1))
        obtain ⟨x, hx⟩ : ∃ x, cntK U (k : Int) = x := ⟨_, rfl⟩
        have HCK := HCT.out (k : Int) a2 c2 wr L3.out
        rw [hx] at HST HCK
        have hx2 : x ≤ 2000 := by have h1 := HCL.out (k : Int); rw [hx, HUL.out] at h1; omega
        have HY2 : Hid (y + x = sumK U (k + 1)) := Lib.hid (by rw [HST.out, HY.out])
        have hyx : y + x ≤ 20000 := by
          have h1 := HLE.out
          have h2 : (k + 1) * N ≤ 8 * 2000 := Nat.mul_le_mul (by omega) hN
          rw [← HY2.out] at h1
          omega
        have HKK := Lib.hid HCK
        clear hx HCK HLE
        go_wp2_with (fail)
        refine HKK.out.mono ?_
        rintro e w4 ⟨rfl, b4⟩
        have B4 := Lib.hid (B3.out.trans (b4.mono B3.out.size))
        have L4 := Lib.hid (L3.out.below b4)
        clear b4 HKK
        go_wp2_with (fail)
        go_roundw
        case rel => exact ⟨k + 1, y + x, by omega, hyx, by go_num, by go_num, HY2, B4, L4⟩
        case measure => simp [intOf]; omega
      · obtain rfl : k = 8 := by omega
        have hk7 : ¬ ((8 : Nat) : Int) ≤ 7 := by omega
        obtain rfl : y = N := by rw [HY.out, HSUM.out]
        clear hlt
        go_wp2_with (fail)
        refine (HTK.out wr).mono ?_
        rintro e w4 ⟨b, rfl, _, hb4, b4⟩
        have B4 := Lib.hid (B3.out.trans (b4.mono B3.out.size))
        have L4 := Lib.hid (L3.out.below b4)
        have T4 := Lib.hid (tk_lst (S := fun _ => False) hb4 (fun h => h))
        clear hb4 b4 HTK
        go_wp2_with (fail)
        refine (HA.out w4 (HV.out.below B4.out)).mono ?_
        rintro e w5 ⟨rfl, b5⟩
        have B5 := Lib.hid (B4.out.trans (b5.mono B4.out.size))
        have L5 := Lib.hid (L4.out.below b5)
        have T5 := Lib.hid (T4.out.below b5)
        clear b5
        go_wp2_with (fail)
        have HCK := HCT.out 8 a2 c2 w5 L5.out
        rw [HC8.out] at HCK
        refine HCK.mono ?_
        rintro e w6 ⟨rfl, b6⟩
        have B6 := Lib.hid (B5.out.trans (b6.mono B5.out.size))
        have T6 := Lib.hid (T5.out.below b6)
        clear b6 HCK
        go_wp2_with (fail)
        refine (HCR.out _ w6 T6.out).mono ?_
        rintro e w7 ⟨rfl, b7⟩
        have B7 := Lib.hid (B6.out.trans (b7.mono B6.out.size))
        clear b7
        go_wp2_with (fail)
        go_ret
        exact ⟨rfl, B7.out⟩
end Go.Proofs.YtniehmlklbggdaaDoor
