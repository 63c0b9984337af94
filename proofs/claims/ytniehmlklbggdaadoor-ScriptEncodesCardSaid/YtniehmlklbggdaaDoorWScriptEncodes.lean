/- The statement ScriptEncodes, walked: it returns true for all lists of operations. -/
import Derived.Test.YtniehmlklbggdaaDoorLive
import Derived.Test.YtniehmlklbggdaaDoorEncs
namespace Go.Proofs.YtniehmlklbggdaaDoor
open Go Go.RowKit
set_option linter.unusedVariables false
set_option linter.unusedSimpArgs false
set_option maxRecDepth 100000

set_option maxHeartbeats 1600000 in
theorem walk_ScriptEncodes (a0 : Option Addr) (len0 cap0 : Nat) (w : World) (w0 : IsOqs w a0 len0 cap0) (hL : laidMetH Tryd.prog Rows.scriptDecodesRow.laid w) :
    Calls Tryd.prog 4 #[.slice a0 len0 cap0] w fun e w' => e = .returned (.bool true) ∧ Below w.heap.size w w' := by
  have HV := Lib.hid (vars_of_laid hL)
  obtain ⟨hlc, hcm, l, hlen, hfit, hl⟩ := w0
  clear hL
  by_cases hbig : 300 < len0
  · have hg : (300 : Int) < (len0 : Int) := by omega
    have HA := Lib.hid (alive_any w HV.out)
    clear hbig hlen hfit hl
    go_enter Tryd.func4, Tryd.ntmps4
    go_wp2_with (fail)
    refine HA.out.mono ?_
    rintro e w3 ⟨rfl, b3⟩
    have B3 := Lib.hid b3
    clear b3
    go_wp2
    go_ret
    exact ⟨rfl, B3.out⟩
  · have hg : ¬ (300 : Int) < (len0 : Int) := by omega
    have HE := Lib.hid (fun w h => encodes_any a0 len0 cap0 l w h hlen hfit (by omega))
    have HRE := Lib.hid (fun w h => refencodes_any a0 len0 cap0 l w h hlen hfit (by omega))
    have HA := Lib.hid (fun w h => alive_any w h)
    have L0 := Lib.hid hl
    have HLN := Lib.hid hlen
    have HF := Lib.hid hfit
    have h300 : len0 ≤ 300 := by omega
    clear hbig hl hlen hfit hlc hcm
    by_cases hv : ∀ o ∈ l, validB o = true
    · have hall : ∀ o ∈ l, validB o = true ∧ FitsOq o := fun o ho => ⟨hv o ho, HF.out o ho⟩
      obtain ⟨hst, hup⟩ := encA_up hall
      have hbl := encA_len hall
      rw [HLN.out] at hst hup hbl
      have HAL := Lib.hid (encA_all hall)
      have HDE := Lib.hid (fun (a : Option Addr) (cp : Nat) (h1 : (encA l).length ≤ cp) (h2 : cp ≤ 9223372036854775807) (w : World) (h : Bys w (fun _ => False) a (encA l)) => decs_any (L := encA l) (N := len0) (a := a) (len := (encA l).length) (cap := cp) hst rfl h1 h2 (by omega) w h)
      have HUP := Lib.hid hup
      have HBL := Lib.hid hbl
      have HNO : Hid (¬ ∃ o ∈ l, validB o = false) := Lib.hid (fun ⟨o, ho, h⟩ => by rw [hv o ho] at h; cases h)
      clear hv hall hst hup hbl
      go_enter Tryd.func4, Tryd.ntmps4
      go_wp2_with (fail)
      refine (HE.out w L0.out).mono ?_
      rintro e w1 ⟨h | ⟨_, v1, rfl, o1⟩, b1⟩
      · exact absurd h.1 HNO.out
      obtain ⟨a1, c1, rfl, _, hc1, hm1, y1⟩ := o1.bys (S := fun _ => False) HAL.out (fun _ _ h => h)
      have Y1 := Lib.hid y1
      have B1 := Lib.hid b1
      have L1 := Lib.hid (L0.out.below b1)
      have HC1 : Hid ((encA l).length ≤ c1 ∧ c1 ≤ 9223372036854775807) := Lib.hid ⟨hc1, by unfold maxLen at hm1; omega⟩
      clear o1 b1 y1 hc1 hm1 HE
      go_wp2_with (fail)
      refine (HRE.out w1 L1.out).mono ?_
      rintro e w2 ⟨h | ⟨_, v2, rfl, o2⟩, b2⟩
      · exact absurd h.1 HNO.out
      obtain ⟨a2, c2, rfl, _, _, _, y2⟩ := o2.bys (S := fun _ => False) HAL.out (fun _ _ h => h)
      have Y2 := Lib.hid y2
      have Y12 := Lib.hid (Y1.out.below b2)
      have B2 := Lib.hid (B1.out.trans (b2.mono B1.out.size))
      have L2 := Lib.hid (L1.out.below b2)
      clear o2 b2 y2 HRE
      go_wp2_with (fail)
      refine (equal_bytes a1 a2 c1 c2 (encA l).length (encA l) w2 _ _ Y12.out Y2.out rfl (by have := HBL.out; omega)).mono ?_
      rintro e w3 ⟨rfl, q, hq⟩
      have B3 : Hid (Below w.heap.size w w3) := Lib.hid (by rw [hq]; exact below_drewN B2.out q)
      have Y3 : Hid (Bys w3 (fun _ => False) a1 (encA l)) := Lib.hid (by rw [hq]; exact Y12.out)
      have L3 : Hid (LstR Oq.row 4 w3 (fun _ => False) a0 l) := Lib.hid (by rw [hq]; exact L2.out)
      clear hq
      go_wp2_with (fail)
      refine (HA.out w3 (HV.out.below B3.out)).mono ?_
      rintro e w4 ⟨rfl, b4⟩
      have B4 := Lib.hid (B3.out.trans (b4.mono B3.out.size))
      have Y4 := Lib.hid (Y3.out.below b4)
      have L4 := Lib.hid (L3.out.below b4)
      clear b4
      go_wp2_with (fail)
      refine (HDE.out a1 c1 HC1.out.1 HC1.out.2 w4 Y4.out).mono ?_
      rintro e w5 ⟨v5, rfl, o5, b5⟩
      rw [HUP.out] at o5
      obtain ⟨a5, c5, rfl, _, _, l5⟩ := o5.lst (S := fun _ => False) HLN.out (fun _ _ h => h)
      have L5 := Lib.hid l5
      have L45 := Lib.hid (L4.out.below b5)
      have B5 := Lib.hid (B4.out.trans (b5.mono B4.out.size))
      clear o5 b5 l5 HDE
      go_wp2_with (fail)
      refine (same_yes _ _ a5 a0 len0 c5 cap0 l w5 L5.out L45.out HLN.out (by omega)).mono ?_
      rintro e w6 ⟨rfl, q, hq⟩
      have B6 : Hid (Below w.heap.size w w6) := Lib.hid (by rw [hq]; exact below_drewN B5.out q)
      clear hq
      go_wp2_with (fail)
      go_ret
      exact ⟨rfl, B6.out⟩
    · have HNO := Lib.hid hv
      clear hv
      go_enter Tryd.func4, Tryd.ntmps4
      go_wp2_with (fail)
      refine (HE.out w L0.out).mono ?_
      rintro e w1 ⟨⟨_, rfl⟩ | h, b1⟩
      rotate_left
      · exact absurd h.1 HNO.out
      have B1 := Lib.hid b1
      have L1 := Lib.hid (L0.out.below b1)
      clear b1 HE
      go_wp2_with (fail)
      refine (HRE.out w1 L1.out).mono ?_
      rintro e w2 ⟨⟨_, rfl⟩ | h, b2⟩
      rotate_left
      · exact absurd h.1 HNO.out
      have B2 := Lib.hid (B1.out.trans (b2.mono B1.out.size))
      clear b2 HRE
      go_wp2_with (fail)
      refine (equal_bytes none none 0 0 0 [] w2 (fun _ => False) (fun _ => False) (Bys.nil _ _ _) (Bys.nil _ _ _) rfl (by omega)).mono ?_
      rintro e w3 ⟨rfl, q, hq⟩
      have B3 : Hid (Below w.heap.size w w3) := Lib.hid (by rw [hq]; exact below_drewN B2.out q)
      clear hq
      go_wp2_with (fail)
      refine (HA.out w3 (HV.out.below B3.out)).mono ?_
      rintro e w4 ⟨rfl, b4⟩
      have B4 := Lib.hid (B3.out.trans (b4.mono B3.out.size))
      clear b4
      go_wp2_with (fail)
      go_ret
      exact ⟨rfl, B4.out⟩
end Go.Proofs.YtniehmlklbggdaaDoor
