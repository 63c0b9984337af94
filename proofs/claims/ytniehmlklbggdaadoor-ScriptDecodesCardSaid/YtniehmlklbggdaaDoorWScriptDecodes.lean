/- The statement ScriptDecodes, walked: it returns true for all bytes. -/
import Derived.Test.YtniehmlklbggdaaDoorLive
import Derived.Test.YtniehmlklbggdaaDoorRDecs
namespace Go.Proofs.YtniehmlklbggdaaDoor
open Go Go.RowKit
set_option linter.unusedVariables false
set_option linter.unusedSimpArgs false
set_option maxRecDepth 100000

set_option maxHeartbeats 1600000 in
theorem walk_ScriptDecodes (a0 : Option Addr) (len0 cap0 : Nat) (z0 : List Int) (w : World) (w0 : IsRow .u8 w a0 len0 cap0 z0) (hL : laidMetH Tryd.prog Rows.scriptDecodesRow.laid w) :
    Calls Tryd.prog 3 #[.slice a0 len0 cap0] w fun e w' => e = .returned (.bool true) ∧ Below w.heap.size w w' := by
  have HV := Lib.hid (vars_of_laid hL)
  obtain ⟨hb, hlen, hlc, hcm⟩ := Bys.of_row (S := fun _ => False) w0 (fun _ _ h => h)
  have hcm' : cap0 ≤ 9223372036854775807 := by unfold maxLen at hcm; omega
  have HA := Lib.hid (alive_any w HV.out)
  clear hL w0 hcm
  by_cases hbig : 2000 < len0
  · have hg : (2000 : Int) < (len0 : Int) := by omega
    clear hbig hb hlen
    go_enter Tryd.func3, Tryd.ntmps3
    go_wp2_with (fail)
    refine HA.out.mono ?_
    rintro e w3 ⟨rfl, b3⟩
    have B3 := Lib.hid b3
    clear b3
    go_wp2
    go_ret
    exact ⟨rfl, B3.out⟩
  · have hg : ¬ (2000 : Int) < (len0 : Int) := by omega
    obtain ⟨N, hS⟩ := stopS_ex (z0.take len0)
    have HNL : Hid (N ≤ 4000000) := Lib.hid (by have := stopS_le hS; omega)
    have HD := Lib.hid (fun w h => decs_any (a := a0) hS hlen hlc hcm' (by omega) w h)
    have HR := Lib.hid (fun w h => refdecs_any (z0.take len0) N a0 len0 cap0 hS hlen hlc hcm' (by omega) w h)
    have Y0 := Lib.hid hb
    have HUL := Lib.hid (upS_len (z0.take len0) N)
    obtain ⟨U, hU⟩ : ∃ U, upS (z0.take len0) N = U := ⟨_, rfl⟩
    have HUU := Lib.hid hU
    rw [hU] at HUL HR
    clear hU
    clear hbig hb hlen hlc hcm' hS
    go_enter Tryd.func3, Tryd.ntmps3
    go_wp2_with (fail)
    refine HA.out.mono ?_
    rintro e w1 ⟨rfl, b1⟩
    have B1 := Lib.hid b1
    have Y1 := Lib.hid (Y0.out.below b1)
    clear b1 HA
    go_wp2_with (fail)
    refine (HD.out w1 Y1.out).mono ?_
    rintro e w2 ⟨v2, rfl, o2, b2⟩
    rw [HUU.out] at o2
    obtain ⟨a2, c2, rfl, _, _, l2⟩ := o2.lst (S := fun _ => False) HUL.out (fun _ _ h => h)
    have L2 := Lib.hid l2
    have B2 := Lib.hid (B1.out.trans (b2.mono B1.out.size))
    have Y2 := Lib.hid (Y1.out.below b2)
    clear o2 b2 l2 HD
    go_wp2_with (fail)
    refine (HR.out w2 Y2.out).mono ?_
    rintro e w3 ⟨v3, rfl, o3, b3⟩
    obtain ⟨a3, c3, rfl, _, _, l3⟩ := o3.lst (S := fun _ => False) HUL.out (fun _ _ h => h)
    have L3 := Lib.hid l3
    have L4 := Lib.hid (L2.out.below b3)
    have B3 := Lib.hid (B2.out.trans (b3.mono B2.out.size))
    clear o3 b3 l3 HR
    go_wp2_with (fail)
    refine (same_yes _ _ a2 a3 N c2 c3 U w3 L4.out L3.out HUL.out HNL.out).mono ?_
    rintro e w4 ⟨rfl, q, hq⟩
    have B4 : Hid (Below w.heap.size w w4) := Lib.hid (by rw [hq]; exact below_drewN B3.out q)
    clear hq
    go_wp2_with (fail)
    go_ret
    exact ⟨rfl, B4.out⟩
end Go.Proofs.YtniehmlklbggdaaDoor
