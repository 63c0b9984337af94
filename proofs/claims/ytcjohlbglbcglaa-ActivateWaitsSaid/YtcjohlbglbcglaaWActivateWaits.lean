/- The walk of ActivateWaits. -/
import Derived.Test.YtcjohlbglbcglaaLive
import Derived.Test.YtcjohlbglbcglaaRWait
import Derived.OpenShut
namespace Go.Proofs.Ytcjohlbglbcglaa
open Go Go.RowKit Go.OpenShut
set_option linter.unusedVariables false
set_option linter.unusedSimpArgs false
set_option maxRecDepth 100000

set_option maxHeartbeats 1600000 in
theorem walk_ActivateWaits (a0 : Option Addr) (len0 cap0 : Nat) (z0 : List Int) (a1 : Int) (a2 : Option Addr) (len2 cap2 : Nat) (z2 : List Int) (w : World) (w0 : IsRow .i64 w a0 len0 cap0 z0) (w1 : (Lit.int .u64 a1).wf = true) (w2 : IsRow .u64 w a2 len2 cap2 z2) :
    Calls Try.prog 6 #[.slice a0 len0 cap0, .int .u64 a1, .slice a2 len2 cap2] w fun e w' => e = .returned (.bool true) ∧ Below w.heap.size w w' := by
  obtain ⟨hu, hl2, hm2, hA⟩ := UAt.of_row w2
  obtain ⟨hi, hl0, hc0, hm0⟩ := IntsAt.of_row (S := fun i => w.heap.size ≤ i) w0 (fun i h1 h2 => by omega)
  have hlim : Amt a1 := u64_of w1
  generalize z0.take len0 = I at *
  generalize z2.take len2 = L at *
  subst hl2
  have HU := Lib.hid hu
  have HI := Lib.hid hi
  have HA := Lib.hid (And.intro hA hlim)
  clear w0 w1 w2 hu hi hA hlim
  by_cases h0 : (40 : Int) < (len0 : Int)
  · go_enter Try.func6, Try.ntmps6
    go_wp2_with fail
    refine (alive_any _).mono ?_
    rintro e w1 ⟨rfl, hb⟩
    have HB := Lib.hid hb
    clear hb
    go_wp2_with fail
    go_ret
    exact ⟨rfl, HB.out⟩
  · by_cases h1 : (100 : Int) < (L.length : Int)
    · go_enter Try.func6, Try.ntmps6
      go_wp2_with fail
      refine (alive_any _).mono ?_
      rintro e w1 ⟨rfl, hb⟩
      have HB := Lib.hid hb
      clear hb
      go_wp2_with fail
      go_ret
      exact ⟨rfl, HB.out⟩
    · obtain ⟨m, hm⟩ : ∃ m, L.length = m := ⟨_, rfl⟩
      by_cases h2 : m = 0
      · subst h2
        rw [hm]
        go_enter Try.func6, Try.ntmps6
        go_wp2_with fail
        refine (alive_any _).mono ?_
        rintro e w1 ⟨rfl, hb⟩
        have HB := Lib.hid hb
        clear hb
        go_wp2_with fail
        go_ret
        exact ⟨rfl, HB.out⟩
      · obtain ⟨b2, o2, ha2, -, hb2, hc2⟩ := HU.out (by omega)
        have hcell := hc2 0 (by omega)
        subst ha2
        have hx : Amt (L.getD 0 0) := HA.out.1 0
        have HM := Lib.hid hm
        have HQ := Lib.hid (queue_any (c := cap0) HI.out (by rw [hl0]; omega) (by rw [hl0]; exact hc0) hm0)
        rw [hl0] at HQ
        have HL0 := Lib.hid hl0
        have HC2 := Lib.hid (fun w' (hb' : Below w.heap.size w w') => (hb'.cell (p := ⟨b2, o2 + 0, none⟩) hb2).trans hcell)
        generalize L.getD 0 0 = x at *
        have HX := Lib.hid hx
        have hmm : ((m : Int) == 0) = false := by simp; omega
        rw [hm] at h1 ⊢
        clear hl0 hc2 hcell hx hm
        go_enter Try.func6, Try.ntmps6
        go_wp2_with fail
        refine HQ.out.mono ?_
        rintro e w1 ⟨b, sz, go, rfl, hq⟩
        have HQ1 := Lib.hid hq
        have hcell := HC2.out w1 hq.2.2
        rw [Nat.add_zero] at hcell
        clear HQ hq
        go_wp2_with fail
        refine (alive_any _).mono ?_
        rintro e w2 ⟨rfl, hb⟩
        have HQ2 := Lib.hid (HQ1.out.below hb)
        have HW := Lib.hid (HQ2.out.wait (cap := cap2) (HU.out.below HQ2.out.2.2) hm2 HA.out.1 HA.out.2 HX.out)
        rw [HM.out] at HW
        clear hb HQ1 hcell
        go_wp2_with fail
        refine HW.out.mono ?_
        rintro e w3 ⟨rfl, hq3, -⟩
        have HQ3 := Lib.hid hq3
        have HR := Lib.hid (rwait_any (cap := cap2) (ic := cap0) (HU.out.below hq3.2.2) hm2 HA.out.1 (HI.out.below hq3.2.2) (by rw [HL0.out]; omega) HA.out.2 HX.out)
        rw [HM.out, HL0.out] at HR
        clear hq3 HW HQ2
        generalize bnd a1 (I.map (wOf L) ++ [x]) = k at *
        go_wp2_with fail
        refine HR.out.mono ?_
        rintro e w4 ⟨rfl, hb⟩
        have HQ4 := Lib.hid (HQ3.out.below hb)
        clear hb HR HQ3
        go_wp2_with fail
        refine HQ4.out.all.mono ?_
        rintro e w5 ⟨rfl, hi5, hq5, -⟩
        have HQ5 := Lib.hid hq5
        have HE := Lib.hid (equal_same (n := len0) (c := len0) (d := cap0) hi5 (HI.out.below hq5.2.2) HL0.out (by omega))
        rw [HL0.out]
        generalize w4.heap.size = g at *
        clear HQ4 hi5 hq5
        go_wp2_with fail
        refine HE.out.mono ?_
        rintro e w6 ⟨rfl, q6, hq6⟩
        have HB6 := Lib.hid (HQ5.out.drewN q6).2.2
        rw [← hq6] at HB6
        clear hq6 HE HQ5
        go_wp2
        go_ret
        exact ⟨rfl, HB6.out⟩
end Go.Proofs.Ytcjohlbglbcglaa
