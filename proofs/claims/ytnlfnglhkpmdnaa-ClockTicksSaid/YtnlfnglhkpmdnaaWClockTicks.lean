/- The walk of ClockTicks. -/
import Derived.Test.YtnlfnglhkpmdnaaClock
namespace Go.Proofs.Ytnlfnglhkpmdnaa
open Go.RowKit Go.OpenShut
set_option linter.unusedVariables false
theorem walk_ClockTicks (a0 : Int) (a1 : Int) (w : World) (w0 : (Lit.int .i64 a0).wf = true) (w1 : (Lit.int .u16 a1).wf = true) :
    Calls Try.prog 3 #[.int .i64 a0, .int .u16 a1] w fun e w' => e = .returned (.bool true) ∧ Below w.heap.size w w' := by
  obtain ⟨_, b0⟩ := bounds_i64 w0
  obtain ⟨c0, c1⟩ := bounds_u16 w1
  clear w0 w1
  by_cases hl : a0 < 1
  · go_enter Try.func3, Try.ntmps3
    go_wp2_with fail
    refine (new_none _ _ hl).mono ?_
    rintro e w' ⟨rfl, rfl⟩
    go_wp2_with fail
    refine (alive_any _).mono ?_
    rintro e w4 ⟨rfl, hb4⟩
    go_wp2_with fail
    go_ret
    exact ⟨rfl, hb4⟩
  · have hl1 : 1 ≤ a0 := by omega
    have hd : decide (a0 < 1) = false := by simpa using hl
    have hz : (a0 == 0) = false := by simp; omega
    have he0 : ∀ (b : Nat) (w : World), ClockAt w b 0 a0 → Calls Try.prog 12 #[.pointer (some ⟨b, 0, none⟩)] w fun e w' => e = .returned (.int .i64 0) ∧ ∃ m, w' = w.drewN m := fun b w h => by
      have := epoch_any b 0 a0 w (by decide) h
      rwa [epochOf_yes (by decide) hl1, Int.zero_ediv] at this
    have HE0 := Lib.hid he0
    have hr0 : 0 ≤ a1 % 2000 := by omega
    have hr1 : a1 % 2000 ≤ 1999 := by omega
    clear he0 hl
    go_enter Try.func3, Try.ntmps3
    go_wp2_with fail
    refine (new_some _ _ hl1).mono ?_
    rintro e w1 ⟨rfl, hw1⟩
    have C1 : Hid (ClockAt w1 w.heap.size 0 a0) := by rw [← hw1]; exact Lib.hid (clock_new w _)
    have B1 : Below w.heap.size w w1 := by rw [← hw1]; exact (Below.refl _ _).alloc (Nat.le_refl _) _
    clear hw1
    go_wp2_with fail
    refine (block_any _ _ _ _ C1.out).mono ?_
    rintro e w' ⟨rfl, rfl⟩
    go_wp2_with fail
    refine (HE0.out _ _ C1.out).mono ?_
    rintro e w2 ⟨rfl, m, hm⟩
    have C2 : Hid (ClockAt w2 w.heap.size 0 a0) := by rw [hm]; exact Lib.hid (Blk.drewN C1.out m)
    have B2 : Below w.heap.size w w2 := by rw [hm]; exact below_drewN B1 m
    clear hm C1 B1
    go_wp2_with fail
    go_loopw [6] (fun s6 wr => ∃ q : Int, 1 ≤ q ∧ q ≤ 2000 ∧ s6 = .int .i64 q ∧ Hid (ClockAt wr w.heap.size (q - 1) a0) ∧ Below w.heap.size w wr) (fun s6 _ => (2000 - intOf s6).toNat)
    case atStart => exact ⟨1, by omega, by omega, rfl, C2, B2⟩
    case round =>
      obtain ⟨q, q0, q1, rfl, CR, BR⟩ := hrel
      by_cases hq : q ≤ a1 % 2000
      · have ht : ∀ (b : Nat) (w : World), ClockAt w b (q - 1) a0 → Calls Try.prog 13 #[.pointer (some ⟨b, 0, none⟩)] w fun e w' => e = .returned (.bool (q % a0 == 0)) ∧ ClockAt w' b q a0 ∧ w.grownBy w' (some b) := fun b w h => by
          have := tick_at b (q - 1) a0 w (by omega) (by omega) hl1 h
          rwa [show q - 1 + 1 = q by omega] at this
        have HT := Lib.hid ht
        have HE := Lib.hid (fun w => refEpochOf_any q a0 w (by omega))
        have HC := Lib.hid (fun (b : Nat) (w : World) => epoch_any b q a0 w (by omega))
        clear ht
        generalize epochOf q a0 = p at *
        go_wp2_with fail
        refine (HT.out _ _ CR.out).mono ?_
        rintro e w3 ⟨rfl, d3, g3⟩
        have D3 := Lib.hid d3
        have B3 := below_only BR g3 BR.size (Nat.le_refl _)
        clear d3 g3 CR BR
        go_wp2_with fail
        refine (block_any _ _ _ _ D3.out).mono ?_
        rintro e w' ⟨rfl, rfl⟩
        go_wp2_with fail
        refine (HC.out _ _ D3.out).mono ?_
        rintro e w4 ⟨rfl, m, hm⟩
        have D4 : Hid (ClockAt w4 w.heap.size q a0) := by rw [hm]; exact Lib.hid (Blk.drewN D3.out m)
        have B4 : Below w.heap.size w w4 := by rw [hm]; exact below_drewN B3 m
        clear hm D3 B3
        go_wp2_with fail
        refine (HE.out _).mono ?_
        rintro e w' ⟨rfl, rfl⟩
        go_wp2_with fail
        go_roundw
        case rel => exact ⟨q + 1, by omega, by omega, rfl, by rw [show q + 1 - 1 = q by omega]; exact D4, B4⟩
        case measure => simp [intOf]; omega
      · go_wp2_with fail
        refine (alive_any _).mono ?_
        rintro e w4 ⟨rfl, hb4⟩
        go_wp2_with fail
        go_ret
        exact ⟨rfl, BR.trans (hb4.mono BR.size)⟩
end Go.Proofs.Ytnlfnglhkpmdnaa
