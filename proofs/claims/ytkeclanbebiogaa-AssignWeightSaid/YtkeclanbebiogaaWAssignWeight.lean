/- The walk of AssignWeight. -/
import Derived.Test.YtkeclanbebiogaaLive
import Derived.Test.YtkeclanbebiogaaWeight
import Derived.OpenShut
namespace Go.Proofs.Ytkeclanbebiogaa
open Go Go.RowKit Go.OpenShut
set_option linter.unusedVariables false
set_option linter.unusedSimpArgs false
set_option maxRecDepth 100000

theorem walk_AssignWeight (a0 : Option Addr) (len0 cap0 : Nat) (z0 : List Int) (a1 : Option Addr) (len1 cap1 : Nat) (z1 : List Int) (w : World) (w0 : IsRow .u64 w a0 len0 cap0 z0) (w1 : IsRow .i64 w a1 len1 cap1 z1) :
    Calls Try.prog 6 #[.slice a0 len0 cap0, .slice a1 len1 cap1] w fun e w' => e = .returned (.bool true) ∧ Below w.heap.size w w' := by
  obtain ⟨hu, hl0, hm0, hA⟩ := UAt.of_row w0
  obtain ⟨hi, hl1, hc1, hm1⟩ := IntsAt.of_row (S := fun _ => False) w1 (fun _ _ h => h)
  have hm2 : len1 ≤ 9223372036854775807 := by omega
  generalize z0.take len0 = L at *
  generalize z1.take len1 = I at *
  subst hl0 hl1
  have HU := Lib.hid hu
  have HI := Lib.hid hi
  have HA := Lib.hid hA
  clear w0 w1 hu hi hA hc1 hm1
  by_cases h0 : (200 : Int) < (L.length : Int)
  · go_enter Try.func6, Try.ntmps6
    go_wp2_with fail
    refine (alive_any _).mono ?_
    rintro e w1 ⟨rfl, hb⟩
    have HB := Lib.hid hb
    clear hb
    go_wp2_with fail
    go_ret
    exact ⟨rfl, HB.out⟩
  · by_cases h1 : (200 : Int) < (I.length : Int)
    · go_enter Try.func6, Try.ntmps6
      go_wp2_with fail
      refine (alive_any _).mono ?_
      rintro e w1 ⟨rfl, hb⟩
      have HB := Lib.hid hb
      clear hb
      go_wp2_with fail
      go_ret
      exact ⟨rfl, HB.out⟩
    · have H1 := Lib.hid (wsum_any (cap := cap0) (ic := cap1) HU.out hm0 HA.out HI.out (by omega))
      have H2 := Lib.hid (fun w' (hb : Below w.heap.size w w') => rwsum_any (cap := cap0) (ic := cap1) (HU.out.below hb) hm0 HA.out (HI.out.below hb) (by omega))
      go_enter Try.func6, Try.ntmps6
      go_wp2_with fail
      refine H1.out.mono ?_
      rintro e w1 ⟨rfl, hb⟩
      have HB1 := Lib.hid hb
      clear hb H1
      go_wp2_with fail
      refine (H2.out _ HB1.out).mono ?_
      rintro e w2 ⟨rfl, hb⟩
      have HB2 := Lib.hid (HB1.out.trans (hb.mono HB1.out.size))
      clear hb H2 HB1
      generalize addQ (I.map (wOf L)) I.length = q at *
      generalize addOk (I.map (wOf L)) I.length = r at *
      go_wp2_with fail
      refine (alive_any _).mono ?_
      rintro e w3 ⟨rfl, hb⟩
      have HB3 := Lib.hid (HB2.out.trans (hb.mono HB2.out.size))
      clear hb HB2
      go_wp2_with fail
      go_ret
      exact ⟨rfl, HB3.out⟩
end Go.Proofs.Ytkeclanbebiogaa
