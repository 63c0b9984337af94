/- The walk of RegistryOverflow. -/
import Derived.Test.YtcmlkcmoailhjaaWRegistryPlays
namespace Go.Proofs.Ytcmlkcmoailhjaa
open Go Go.RowKit Go.Deep
set_option linter.unusedVariables false
set_option linter.unusedSimpArgs false

def pv (x s : Int) : Val := ⟨x, s, false, 0, 0, 0, 0⟩
theorem pv_built (x s : Int) : Try.prog.built 29 [(0, .int .u64 x), (1, .int .i64 s)] = some (cellsV (pv x s)) := by kernel_rfl
theorem pv_fits {x s : Int} (h : (Lit.int .u64 x).wf = true) (h2 : (Lit.int .i64 s).wf = true) : FitsV (pv x s) := ⟨h, h2⟩

set_option maxHeartbeats 1600000 in
theorem walk_RegistryOverflow (a0 a1 a2 : Int) (w : World) (w0 : (Lit.int .u64 a0).wf = true) (w1 : (Lit.int .u64 a1).wf = true) (w2 : (Lit.int .i64 a2).wf = true) :
    Calls Try.prog 7 #[.int .u64 a0, .int .u64 a1, .int .i64 a2] w fun e w' => e = .returned (.bool true) ∧ Below w.heap.size w w' := by
  have FA := pv_fits w0 w2
  have FB := pv_fits w1 w2
  have FM : FitsV (pv 18446744073709551615 a2) := pv_fits (by decide) w2
  obtain ⟨p0, p1⟩ := bounds_u64 w0
  obtain ⟨q0, q1⟩ := bounds_u64 w1
  have HB : Hid (∀ w, Calls Try.prog 9 #[.int .i64 4] w fun e w' => ∃ b S, e = .returned (.pointer (some ⟨b, 0, none⟩)) ∧ Reg w' b S 4 [] ∧ (∀ i, S i → w.heap.size ≤ i) ∧ Below w.heap.size w w') := Lib.hid (fun w => new_any 4 w (by decide) (by decide))
  have H1 := Lib.hid (fun (b : Nat) (S : Nat → Prop) (w : World) (h : Reg w b S 4 []) => addv_yes b 4 S [] (pv a0 a2) w h FA (by decide) (by simp [totalOf, pv]; omega))
  by_cases hb : 18446744073709551615 - a0 < a1
  · have H2 := Lib.hid (fun (b : Nat) (S : Nat → Prop) (w : World) (h : Reg w b S 4 [pv a0 a2]) => addv_no b 4 S [pv a0 a2] (pv a1 a2) w h FB (by simp) (by simp [totalOf, pv]; omega))
    have H3 := Lib.hid (fun (b : Nat) (S : Nat → Prop) (w : World) (h : Reg w b S 4 [pv a0 a2]) => setv_at b 4 0 S [pv a0 a2] (pv a0 a2) (pv 18446744073709551615 a2) w h FM rfl (by simp [totalOf, pv]))
    have HT : Hid (∀ (b : Nat) (S : Nat → Prop) (w : World) (h : Reg w b S 4 [pv 18446744073709551615 a2]), Calls Try.prog 15 #[.pointer (some ⟨b, 0, none⟩)] w fun e w' => e = .returned (.int .u64 18446744073709551615) ∧ w = w') := Lib.hid (fun b S w h => by have := rtotal h; simpa [totalOf, pv] using this)
    have HL : Hid (∀ (b : Nat) (S : Nat → Prop) (w : World) (h : Reg w b S 4 [pv 18446744073709551615 a2]), Calls Try.prog 12 #[.pointer (some ⟨b, 0, none⟩)] w fun e w' => e = .returned (.int .i64 1) ∧ w = w') := Lib.hid (fun b S w h => rlen h)
    clear FA FB FM w0 w1 w2
    go_enter Try.func7, Try.ntmps7
    go_wp2_with fail
    refine (HB.out _).mono ?_
    rintro e w1 ⟨b, S, rfl, hr, hS, hbl⟩
    have R1 := Lib.hid hr
    have S1 := Lib.hid hS
    have B1 := Lib.hid hbl
    clear hr hS hbl
    go_wp2_with (refine wpList_build_val rfl 29 _ rfl (pv a0 a2) (pv_built _ _) ?_)
    refine (H1.out b S w1 R1.out).mono ?_
    rintro e w2 ⟨rfl, S2, hr, hm, hk⟩
    have R2 : Hid (Reg w2 b S2 4 [pv a0 a2]) := Lib.hid hr
    have T2 : Hid (∀ i, S2 i → w.heap.size ≤ i) := Lib.hid (fun i hi => (hm i hi).elim (S1.out i) (fun h => Nat.le_trans B1.out.size h))
    have B2 := Lib.hid (Kept.below B1.out hk S1.out B1.out.size)
    clear hr hm hk R1 S1 B1
    go_wp2_with (refine wpList_build_val rfl 29 _ rfl (pv a1 a2) (pv_built _ _) ?_)
    refine (H2.out b S2 w2 R2.out).mono ?_
    rintro e w3 ⟨rfl, hb3⟩
    have R3 := Lib.hid (R2.out.below hb3)
    have B3 := Lib.hid (B2.out.trans (hb3.mono B2.out.size))
    clear hb3 R2 B2
    go_wp2_with (refine wpList_build_val rfl 29 _ rfl (pv 18446744073709551615 a2) (pv_built _ _) ?_)
    refine (H3.out b S2 w3 R3.out).mono ?_
    rintro e w4 ⟨rfl, hr, hk⟩
    have R4 : Hid (Reg w4 b S2 4 [pv 18446744073709551615 a2]) := Lib.hid hr
    have B4 := Lib.hid (Kept.below B3.out hk T2.out B3.out.size)
    clear hr hk R3 B3
    go_wp2_with fail
    refine (alive_any _).mono ?_
    rintro e w5 ⟨rfl, hb5⟩
    have R5 := Lib.hid (R4.out.below hb5)
    have B5 := Lib.hid (B4.out.trans (hb5.mono B4.out.size))
    clear hb5 R4 B4
    go_wp2_with fail
    refine (HL.out b S2 w5 R5.out).mono ?_
    rintro e w6 ⟨rfl, rfl⟩
    go_wp2_with fail
    refine (HT.out b S2 w5 R5.out).mono ?_
    rintro e w6 ⟨rfl, rfl⟩
    go_wp2_with fail
    go_ret
    exact ⟨rfl, B5.out⟩
  · have H2 := Lib.hid (fun (b : Nat) (S : Nat → Prop) (w : World) (h : Reg w b S 4 [pv a0 a2]) => addv_yes b 4 S [pv a0 a2] (pv a1 a2) w h FB (by simp) (by simp [totalOf, pv]; omega))
    by_cases hz : 0 < a1
    · have H3 := Lib.hid (fun (b : Nat) (S : Nat → Prop) (w : World) (h : Reg w b S 4 [pv a0 a2, pv a1 a2]) => setv_exc b 4 0 S [pv a0 a2, pv a1 a2] (pv a0 a2) (pv 18446744073709551615 a2) w h FM rfl (by simp [totalOf, pv]; omega))
      have HT : Hid (∀ (b : Nat) (S : Nat → Prop) (w : World) (h : Reg w b S 4 [pv a0 a2, pv a1 a2]), Calls Try.prog 15 #[.pointer (some ⟨b, 0, none⟩)] w fun e w' => e = .returned (.int .u64 (a0 + a1)) ∧ w = w') := Lib.hid (fun b S w h => by have := rtotal h; simpa [totalOf, pv] using this)
      clear FA FB FM w0 w1 w2
      go_enter Try.func7, Try.ntmps7
      go_wp2_with fail
      refine (HB.out _).mono ?_
      rintro e w1 ⟨b, S, rfl, hr, hS, hbl⟩
      have R1 := Lib.hid hr
      have S1 := Lib.hid hS
      have B1 := Lib.hid hbl
      clear hr hS hbl
      go_wp2_with (refine wpList_build_val rfl 29 _ rfl (pv a0 a2) (pv_built _ _) ?_)
      refine (H1.out b S w1 R1.out).mono ?_
      rintro e w2 ⟨rfl, S2, hr, hm, hk⟩
      have R2 : Hid (Reg w2 b S2 4 [pv a0 a2]) := Lib.hid hr
      have T2 : Hid (∀ i, S2 i → w.heap.size ≤ i) := Lib.hid (fun i hi => (hm i hi).elim (S1.out i) (fun h => Nat.le_trans B1.out.size h))
      have B2 := Lib.hid (Kept.below B1.out hk S1.out B1.out.size)
      clear hr hm hk R1 S1 B1
      go_wp2_with (refine wpList_build_val rfl 29 _ rfl (pv a1 a2) (pv_built _ _) ?_)
      refine (H2.out b S2 w2 R2.out).mono ?_
      rintro e w3 ⟨rfl, S3, hr, hm, hk⟩
      have R3 : Hid (Reg w3 b S3 4 [pv a0 a2, pv a1 a2]) := Lib.hid hr
      have T3 : Hid (∀ i, S3 i → w.heap.size ≤ i) := Lib.hid (fun i hi => (hm i hi).elim (T2.out i) (fun h => Nat.le_trans B2.out.size h))
      have B3 := Lib.hid (Kept.below B2.out hk T2.out B2.out.size)
      clear hr hm hk R2 T2 B2
      go_wp2_with (refine wpList_build_val rfl 29 _ rfl (pv 18446744073709551615 a2) (pv_built _ _) ?_)
      refine (H3.out b S3 w3 R3.out).mono ?_
      rintro e w4 ⟨rfl, hr, hk⟩
      have R4 := Lib.hid hr
      have B4 := Lib.hid (Kept.below B3.out hk T3.out B3.out.size)
      clear hr hk R3 B3
      go_wp2_with fail
      refine (alive_any _).mono ?_
      rintro e w5 ⟨rfl, hb5⟩
      have R5 := Lib.hid (R4.out.below hb5)
      have B5 := Lib.hid (B4.out.trans (hb5.mono B4.out.size))
      clear hb5 R4 B4
      go_wp2_with fail
      refine (HT.out b S3 w5 R5.out).mono ?_
      rintro e w6 ⟨rfl, rfl⟩
      go_wp2_with fail
      go_ret
      exact ⟨rfl, B5.out⟩
    · have H3 := Lib.hid (fun (b : Nat) (S : Nat → Prop) (w : World) (h : Reg w b S 4 [pv a0 a2, pv a1 a2]) => setv_at b 4 0 S [pv a0 a2, pv a1 a2] (pv a0 a2) (pv 18446744073709551615 a2) w h FM rfl (by simp [totalOf, pv]; omega))
      have hz0 : a1 = 0 := by omega
      have HT : Hid (∀ (b : Nat) (S : Nat → Prop) (w : World) (h : Reg w b S 4 [pv 18446744073709551615 a2, pv a1 a2]), Calls Try.prog 15 #[.pointer (some ⟨b, 0, none⟩)] w fun e w' => e = .returned (.int .u64 18446744073709551615) ∧ w = w') := Lib.hid (fun b S w h => by have := rtotal h; simpa [totalOf, pv, hz0] using this)
      clear FA FB FM w0 w1 w2 hz0
      go_enter Try.func7, Try.ntmps7
      go_wp2_with fail
      refine (HB.out _).mono ?_
      rintro e w1 ⟨b, S, rfl, hr, hS, hbl⟩
      have R1 := Lib.hid hr
      have S1 := Lib.hid hS
      have B1 := Lib.hid hbl
      clear hr hS hbl
      go_wp2_with (refine wpList_build_val rfl 29 _ rfl (pv a0 a2) (pv_built _ _) ?_)
      refine (H1.out b S w1 R1.out).mono ?_
      rintro e w2 ⟨rfl, S2, hr, hm, hk⟩
      have R2 : Hid (Reg w2 b S2 4 [pv a0 a2]) := Lib.hid hr
      have T2 : Hid (∀ i, S2 i → w.heap.size ≤ i) := Lib.hid (fun i hi => (hm i hi).elim (S1.out i) (fun h => Nat.le_trans B1.out.size h))
      have B2 := Lib.hid (Kept.below B1.out hk S1.out B1.out.size)
      clear hr hm hk R1 S1 B1
      go_wp2_with (refine wpList_build_val rfl 29 _ rfl (pv a1 a2) (pv_built _ _) ?_)
      refine (H2.out b S2 w2 R2.out).mono ?_
      rintro e w3 ⟨rfl, S3, hr, hm, hk⟩
      have R3 : Hid (Reg w3 b S3 4 [pv a0 a2, pv a1 a2]) := Lib.hid hr
      have T3 : Hid (∀ i, S3 i → w.heap.size ≤ i) := Lib.hid (fun i hi => (hm i hi).elim (T2.out i) (fun h => Nat.le_trans B2.out.size h))
      have B3 := Lib.hid (Kept.below B2.out hk T2.out B2.out.size)
      clear hr hm hk R2 T2 B2
      go_wp2_with (refine wpList_build_val rfl 29 _ rfl (pv 18446744073709551615 a2) (pv_built _ _) ?_)
      refine (H3.out b S3 w3 R3.out).mono ?_
      rintro e w4 ⟨rfl, hr, hk⟩
      have R4 : Hid (Reg w4 b S3 4 [pv 18446744073709551615 a2, pv a1 a2]) := Lib.hid hr
      have B4 := Lib.hid (Kept.below B3.out hk T3.out B3.out.size)
      clear hr hk R3 B3
      go_wp2_with fail
      refine (alive_any _).mono ?_
      rintro e w5 ⟨rfl, hb5⟩
      have R5 := Lib.hid (R4.out.below hb5)
      have B5 := Lib.hid (B4.out.trans (hb5.mono B4.out.size))
      clear hb5 R4 B4
      go_wp2_with fail
      refine (HT.out b S3 w5 R5.out).mono ?_
      rintro e w6 ⟨rfl, rfl⟩
      go_wp2_with fail
      go_ret
      exact ⟨rfl, B5.out⟩
end Go.Proofs.Ytcmlkcmoailhjaa
