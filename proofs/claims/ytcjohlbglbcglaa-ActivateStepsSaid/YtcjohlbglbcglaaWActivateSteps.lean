/- The walk of ActivateSteps. -/
import Derived.Test.YtcjohlbglbcglaaLive
import Derived.Test.YtcjohlbglbcglaaRStep
import Derived.Test.YtcjohlbglbcglaaQSlice
import Derived.OpenShut
namespace Go.Proofs.Ytcjohlbglbcglaa
open Go Go.RowKit Go.OpenShut
set_option linter.unusedVariables false
set_option linter.unusedSimpArgs false
set_option maxRecDepth 100000

theorem IntsAt.sliced {w : World} {S : Nat → Prop} {a : Option Addr} {L : List Int} {cap B : Nat} (h : IntsAt w S a L) (hc : L.length ≤ cap) : IntsAt w S (if cap = B then a else a.map (·.add (B * 1))) (L.drop B) := fun h0 => by
  rw [List.length_drop] at h0
  obtain ⟨b, off, rfl, h1, h2, h3⟩ := h (by omega)
  rw [if_neg (by omega)]
  refine ⟨b, off + B, by rw [Option.map_some, Nat.mul_one, add_plain], h1, h2, fun i hi => ?_⟩
  rw [List.length_drop] at hi
  have := h3 (B + i) (by omega)
  rw [← Nat.add_assoc] at this
  rw [this]
  simp [List.getD_eq_getElem?_getD]
set_option maxHeartbeats 1600000 in
theorem walk_ActivateSteps (a0 : Option Addr) (len0 cap0 : Nat) (z0 : List Int) (a1 : Int) (a2 : Option Addr) (len2 cap2 : Nat) (z2 : List Int) (w : World) (w0 : IsRow .i64 w a0 len0 cap0 z0) (w1 : (Lit.int .u64 a1).wf = true) (w2 : IsRow .u64 w a2 len2 cap2 z2) :
    Calls Try.prog 3 #[.slice a0 len0 cap0, .int .u64 a1, .slice a2 len2 cap2] w fun e w' => e = .returned (.bool true) ∧ Below w.heap.size w w' := by
  obtain ⟨hu, hl2, hm2, hA⟩ := UAt.of_row w2
  obtain ⟨hi, hl0, hc0, hm0⟩ := IntsAt.of_row (S := fun i => w.heap.size ≤ i) w0 (fun i h1 h2 => by omega)
  have hlim : Amt a1 := u64_of w1
  generalize z0.take len0 = I at *
  generalize z2.take len2 = L at *
  subst hl2
  have HU := Lib.hid hu
  have HI := Lib.hid hi
  have HA := Lib.hid (And.intro hA hlim)
  clear w0 w1 w2 hu hi hA hlim
  by_cases h0 : (60 : Int) < (len0 : Int)
  · go_enter Try.func3, Try.ntmps3
    go_wp2_with fail
    refine (alive_any _).mono ?_
    rintro e w1 ⟨rfl, hb⟩
    have HB := Lib.hid hb
    clear hb
    go_wp2_with fail
    go_ret
    exact ⟨rfl, HB.out⟩
  · by_cases h1 : (100 : Int) < (L.length : Int)
    · go_enter Try.func3, Try.ntmps3
      go_wp2_with fail
      refine (alive_any _).mono ?_
      rintro e w1 ⟨rfl, hb⟩
      have HB := Lib.hid hb
      clear hb
      go_wp2_with fail
      go_ret
      exact ⟨rfl, HB.out⟩
    · have HQ := Lib.hid (queue_any (c := cap0) HI.out (by rw [hl0]; omega) (by rw [hl0]; exact hc0) hm0)
      rw [hl0] at HQ
      have hBl := bat_le (lim := a1) (I.map (wOf L))
      rw [List.length_map, hl0] at hBl
      obtain ⟨B, hB⟩ : ∃ B, bat a1 (I.map (wOf L)) = B := ⟨_, rfl⟩
      rw [hB] at hBl
      have HBB := Lib.hid hB
      have HL0 := Lib.hid hl0
      clear hl0 hB
      go_enter Try.func3, Try.ntmps3
      go_wp2_with fail
      refine HQ.out.mono ?_
      rintro e w1 ⟨b, sz, go, rfl, hq⟩
      have HS := Lib.hid (hq.step (cap := cap2) (hq.uat HU.out) hm2 HA.out.1 HA.out.2)
      rw [HBB.out] at HS
      clear HQ hq
      go_wp2_with fail
      refine HS.out.mono ?_
      rintro e w2 ⟨a', c', rfl, hc1, hc2, hi2, hq2, -⟩
      have HI2 := Lib.hid hi2
      have HQ2 := Lib.hid hq2
      have HR := Lib.hid (rstep_any (ic := cap0) (cap := cap2) (HU.out.below hq2.2.2) hm2 HA.out.1 (HI.out.below hq2.2.2) (by rw [HL0.out]; omega) (by rw [HL0.out]; exact hc0) hm0 HA.out.2)
      rw [HBB.out, HL0.out] at HR
      clear HS hi2 hq2
      go_wp2_with fail
      refine HR.out.mono ?_
      rintro e w3 ⟨rfl, hb3⟩
      have HI3 := Lib.hid (HI2.out.below hb3)
      have HQ3 := Lib.hid (HQ2.out.below hb3)
      clear HR hb3 HI2 HQ2
      go_wp2_with fail
      refine wp_region_first (fun _ => True) 16 16 [] (by kernel_rfl) (by kernel_rfl) trivial ?_
      simp only [List.filterMap_cons, List.filterMap_nil, List.getElem?_toArray, List.getElem?_cons_zero, List.getElem?_cons_succ]
      refine wpQuiet_nil ?_
      refine headF_one (i := 0) (by kernel_rfl) (by omega) ?_
      refine wpOp_at rfl rfl (wp_call_at rfl #[] (by kernel_rfl) Try.call9 ((alive_any w3.drew).mono ?_))
      rintro e u1 ⟨rfl, hb1⟩
      have hb1 : Below w3.heap.size w3 u1 := (Below.drew (Below.refl _ _)).trans hb1
      have HI4 := Lib.hid (HI3.out.below hb1)
      have HQ4 := Lib.hid (HQ3.out.below hb1)
      clear hb1 HI3 HQ3
      refine ⟨_, rfl, trivial, ?_⟩
      simp only [Act.put, List.getElem_toArray, List.getElem_cons_zero, List.getElem_cons_succ, List.setIfInBounds_toArray, List.set_cons_zero, List.set_cons_succ]
      refine headF_takes (fun _ => True) (m := 15) (f := 10) [1, 2, 3, 4, 5] (fun _ h => trivial) (by kernel_rfl) trivial ?_
      simp only [List.filterMap_cons, List.filterMap_nil, List.getElem?_toArray, List.getElem?_cons_zero, List.getElem?_cons_succ]
      show wpQuiet _ _ _ _ [_, _, _, _, _] _
      iterate 4 (go_big_quiet_step ((intros; rfl)))
      refine q_slice_h 22 _ _ a0 len0 cap0 B (by kernel_rfl) rfl rfl rfl Try.underlying22 (by kernel_rfl) (by omega) ?_
      simp only [Act.put, List.setIfInBounds_toArray, List.set_cons_zero, List.set_cons_succ]
      refine wpQuiet_nil ?_
      have HT : Hid ((I.take B).length = B ∧ (I.drop B).length = len0 - B) := Lib.hid ⟨by rw [List.length_take, HL0.out]; omega, by rw [List.length_drop, HL0.out]⟩
      have HE1 := Lib.hid (equal_same (n := B) (c := c') (d := cap0) HI4.out (IntsAt.take (HI.out.below HQ4.out.2.2) (by rw [HL0.out]; exact hBl)) HT.out.1 (by omega))
      refine headF_one (i := 6) (by kernel_rfl) (by omega) ?_
      refine wpOp_atG rfl (by kernel_rfl) (wp_call_at rfl #[.slice a' B c', .slice a0 B cap0] (by kernel_rfl) Try.call13 ((HE1.out).mono ?_))
      rintro e u2 ⟨rfl, q2, hq2⟩
      have HQ5 := Lib.hid (HQ4.out.drewN q2)
      rw [← hq2] at HQ5
      clear hq2 HQ4 HI4 HE1
      refine ⟨_, rfl, trivial, ?_⟩
      simp only [Act.put, List.getElem_toArray, List.getElem_cons_zero, List.getElem_cons_succ, List.setIfInBounds_toArray, List.set_cons_zero, List.set_cons_succ]
      refine headF_takes (fun _ => True) (m := 9) (f := 3) [7, 8, 9, 11, 12, 13] (fun _ h => trivial) (by kernel_rfl) trivial ?_
      simp only [List.filterMap_cons, List.filterMap_nil, List.getElem?_toArray, List.getElem?_cons_zero, List.getElem?_cons_succ]
      show wpQuiet _ _ _ _ [_, _, _, _, _, _] _
      iterate 5 (go_big_quiet_step ((intros; rfl)))
      refine q_slice_l 22 _ _ a0 len0 cap0 B (by kernel_rfl) rfl rfl rfl Try.underlying22 (by kernel_rfl) hBl ?_
      rw [show sliced a0 B len0 cap0 1 = .slice (if cap0 = B then a0 else a0.map (·.add (B * 1))) (len0 - B) (cap0 - B) from rfl]
      have hsl := IntsAt.sliced (B := B) (HI.out.below HQ5.out.2.2) (by rw [HL0.out]; exact hc0)
      generalize (if cap0 = B then a0 else a0.map (·.add (B * 1))) = ax at *
      have HSL := Lib.hid hsl
      clear hsl
      simp only [Act.put, List.setIfInBounds_toArray, List.set_cons_zero, List.set_cons_succ]
      refine wpQuiet_nil ?_
      refine headF_one (i := 10) (by kernel_rfl) (by omega) ?_
      refine wpOp_atG rfl (by kernel_rfl) (wp_call_at rfl #[.pointer (some ⟨b, 0, none⟩)] (by kernel_rfl) Try.call14 ((HQ5.out.all).mono ?_))
      rintro e u3 ⟨rfl, hi3, hq3, hb3⟩
      rw [HT.out.2]
      have HE2 := Lib.hid (equal_same (n := len0 - B) (c := len0 - B) (d := cap0 - B) hi3 (HSL.out.below hb3) HT.out.2 (by omega))
      have HQ6 := Lib.hid hq3
      clear hi3 hq3 hb3 HQ5 HSL
      refine ⟨_, rfl, trivial, ?_⟩
      simp only [Act.put, List.getElem_toArray, List.getElem_cons_zero, List.getElem_cons_succ, List.setIfInBounds_toArray, List.set_cons_zero, List.set_cons_succ]
      generalize u2.heap.size = g at *
      refine headF_one (i := 14) (by kernel_rfl) (by omega) ?_
      refine wpOp_atG rfl (by kernel_rfl) (wp_call_at rfl #[.slice (some ⟨g, 0, none⟩) (len0 - B) (len0 - B), .slice ax (len0 - B) (cap0 - B)] (by kernel_rfl) Try.call13 ((HE2.out).mono ?_))
      rintro e u4 ⟨rfl, q4, hq4⟩
      have HB7 := Lib.hid (HQ6.out.drewN q4).2.2
      rw [← hq4] at HB7
      clear hq4 HQ6 HE2
      refine ⟨_, rfl, trivial, ?_⟩
      simp only [Act.put, List.getElem_toArray, List.getElem_cons_zero, List.getElem_cons_succ, List.setIfInBounds_toArray, List.set_cons_zero, List.set_cons_succ]
      refine headF_takes (fun _ => True) (m := 1) (f := 0) [15] (fun _ h => trivial) (by kernel_rfl) trivial ?_
      simp only [List.filterMap_cons, List.filterMap_nil, List.getElem?_toArray, List.getElem?_cons_zero, List.getElem?_cons_succ]
      show wpQuiet _ _ _ _ [_] _
      iterate 1 (go_big_quiet_step ((intros; rfl)))
      refine wpQuiet_nil ?_
      show Region.seqB _ _ _ _ _ = true ∧ _
      refine ⟨by kernel_rfl, ?_⟩
      simp only [Act.put, List.getElem_toArray, List.getElem_cons_zero, List.getElem_cons_succ, List.setIfInBounds_toArray, List.set_cons_zero, List.set_cons_succ, List.drop_succ_cons, List.drop_zero]
      go_wp2
      refine NoPanic.normal ?_
      go_wp2
      go_ret
      exact ⟨rfl, HB7.out⟩
end Go.Proofs.Ytcjohlbglbcglaa
