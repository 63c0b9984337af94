/- The walk of CursorNil. -/
import Derived.Test.YtokkdeoimhibpaaLive
import Derived.Test.YtokkdeoimhibpaaArg
namespace Go.Proofs.Ytokkdeoimhibpaa
open Go Go.RowKit Go.Deep
set_option linter.unusedVariables false
set_option linter.unusedSimpArgs false

set_option maxHeartbeats 1600000 in
theorem walk_CursorNil (a0 : Option Addr) (len0 cap0 : Nat) (a1 a2 : Int) (w : World) (w0 : IsBools w a0 len0 cap0) (w1 : (Lit.int .i64 a1).wf = true) (w2 : (Lit.int .i64 a2).wf = true) :
    Calls Try.prog 8 #[.slice a0 len0 cap0, .int .i64 a1, .int .i64 a2] w fun e w' => e = .returned (.bool true) ∧ Below w.heap.size w w' := by
  obtain ⟨L, hL, l1, l2, hB⟩ := w0
  have hl : len0 ≤ 9223372036854775807 := by unfold maxLen at l2; omega
  have HL := Lib.hid hL
  have HB := Lib.hid hB
  have H9 := Lib.hid (fun w => new_any w)
  clear l1 l2 hL hB w1 w2
  by_cases h100 : (100 : Int) < (len0 : Int)
  · go_enter Try.func8, Try.ntmps8
    go_wp2_with fail
    refine (alive_any _).mono ?_
    rintro e w1 ⟨rfl, hb⟩
    have HB := Lib.hid hb
    clear hb
    go_wp2_with fail
    go_ret
    exact ⟨rfl, HB.out⟩
  · go_enter Try.func8, Try.ntmps8
    go_wp2_with fail
    refine (sweep_nil a0 len0 cap0 a1 a2 _).mono ?_
    rintro e w1 ⟨rfl, rfl⟩
    go_wp2_with fail
    refine (H9.out _).mono ?_
    rintro e w1 ⟨c, rfl, hcw, HC, hb⟩
    have O1 : Hid (Own w w1 c 0) := Lib.hid (Own.new hcw HC.out hb)
    have B1 : Hid (Bools w1 (fun i => w.heap.size ≤ i) a0 L) := Lib.hid ((HB.out.other (fun i hi h => by omega)).below hb)
    clear hcw HC hb
    go_wp2_with fail
    refine (H9.out _).mono ?_
    rintro e w2 ⟨d, rfl, hdw, HD, hb⟩
    have hcd : c ≠ d := by have := O1.out.1.lt; omega
    have O2 : Hid (Own w w2 c 0) := Lib.hid (O1.out.below hb)
    have D2 : Hid (Own w w2 d 0) := Lib.hid (Own.new (Nat.le_trans O1.out.2.2.size hdw) HD.out (O1.out.2.2.trans (hb.mono O1.out.2.2.size)))
    have B2 : Hid (Bools w2 (fun i => i = c) a0 L) := Lib.hid ((B1.out.other (fun i _ h => by rw [h]; exact O1.out.2.1)).below hb)
    clear hdw HD hb O1 B1
    have hl100 : L.length ≤ 100 := by rw [HL.out]; omega
    have H1 := Lib.hid (O2.out.sweep a0 cap0 L a1 a2 (by omega) hl100 B2.out)
    rw [HL.out] at H1
    clear hl100
    go_wp2_with fail
    refine H1.out.mono ?_
    rintro e w3 ⟨m, a3, cp3, rfl, _, _, O3, K3⟩
    have D3 : Hid (Cur w3 d 0) := Lib.hid (Blk.kept D2.out.1 K3.out (fun e => hcd e.symm))
    clear H1 D2 O2 B2 K3
    go_wp2_with fail
    refine (alive_any _).mono ?_
    rintro e w4 ⟨rfl, hb⟩
    have D4 : Hid (Cur w4 d 0) := Lib.hid (Blk.below D3.out hb D3.out.lt)
    have HB := Lib.hid (O3.out.2.2.trans (hb.mono O3.out.2.2.size))
    clear D3 O3 hb
    go_wp2_with fail
    refine (at_nil _).mono ?_
    rintro e w5 ⟨rfl, rfl⟩
    go_wp2_with fail
    refine (distance_nil 3 1 _).mono ?_
    rintro e w5 ⟨rfl, rfl⟩
    have H5 : Hid (Calls Try.prog 15 #[.pointer (some ⟨d, 0, none⟩)] w4 fun e w' => e = .returned (.int .i64 0) ∧ w4 = w') := Lib.hid (at_any d 0 w4 D4.out)
    go_wp2_with fail
    refine H5.out.mono ?_
    rintro e w5 ⟨rfl, rfl⟩
    go_wp2_with fail
    go_ret
    exact ⟨rfl, HB.out⟩
end Go.Proofs.Ytokkdeoimhibpaa
