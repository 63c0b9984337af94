/- The walk of LedgerRoom. -/
import Derived.Test.YtifjpfalokfhgaaSameT
import Derived.Test.YtifjpfalokfhgaaOpen
import Derived.OpenShut
namespace Go.Proofs.Ytifjpfalokfhgaa
open Go Go.RowKit Go.OpenShut
set_option linter.unusedVariables false
set_option linter.unusedSimpArgs false

theorem Both.new_ {w w1 : World} {C : Int} (h : LedAt w1 w.heap.size 0 0 0 C) (hF : Fits 0 0 0 C) (hs : w1.heap.size = w.heap.size + 1) :
    Both (w1.alloc (.cells #[.int .u64 C, .int .u64 0, .int .u64 0, .int .u64 0] 28)) w.heap.size w.heap.size w1.heap.size 0 0 0 C :=
  ⟨Blk.alloc h _, Blk.new _ _ _, by omega, Nat.le_refl _, by omega, hF⟩

set_option maxHeartbeats 800000 in
theorem walk_LedgerRoom (a0 : Int) (a1 : Option Addr) (len1 cap1 : Nat) (a2 : Int) (w : World) (w0 : (Lit.int .u64 a0).wf = true) (w1 : IsEnts w a1 len1 cap1) (w2 : (Lit.int .u64 a2).wf = true) :
    Calls Try.prog 5 #[.int .u64 a0, .slice a1 len1 cap1, .int .u64 a2] w fun e w' => e = .returned (.bool true) ∧ Below w.heap.size w w' := by
  obtain ⟨c0, c1⟩ := bounds_u64 w0
  obtain ⟨x0, x1⟩ := bounds_u64 w2
  have W1 := Lib.hid w1
  have hl1 : len1 ≤ 9223372036854775807 := by have := w1.1; have := w1.2.1; unfold maxLen at this; omega
  clear w0 w1 w2
  go_enter Try.func5, Try.ntmps5
  go_wp2_with fail
  refine (new_at a0 _ c0 c1).mono ?_
  rintro e w1 ⟨rfl, l1, f1, b1, s1⟩
  have BO : Hid (Both (w1.alloc (.cells #[.int .u64 a0, .int .u64 0, .int .u64 0, .int .u64 0] 28)) w.heap.size w.heap.size w1.heap.size 0 0 0 a0) := Lib.hid (Both.new_ l1 f1 s1)
  have B2 : Below w.heap.size w (w1.alloc (.cells #[.int .u64 a0, .int .u64 0, .int .u64 0, .int .u64 0] 28)) := b1.alloc b1.size _
  clear l1 f1 b1 s1
  by_cases h1000 : (1000 : Int) < (len1 : Int)
  · go_wp2_with fail
    generalize w1.alloc (.cells #[.int .u64 a0, .int .u64 0, .int .u64 0, .int .u64 0] 28) = w2 at *
    refine (alive_any _).mono ?_
    rintro e w3 ⟨rfl, b3⟩
    go_wp2_with fail
    go_ret
    exact ⟨rfl, B2.trans (b3.mono B2.size)⟩
  · go_wp2_with fail
    generalize w1.alloc (.cells #[.int .u64 a0, .int .u64 0, .int .u64 0, .int .u64 0] 28) = w2 at *
    go_loopw [25] (fun s25 wr => ∃ (k : Nat) (D P B : Int), k ≤ len1 ∧ s25 = .int .i64 k ∧ Hid (Both wr w.heap.size w.heap.size w1.heap.size D P B a0) ∧ Below w.heap.size w wr) (fun s25 _ => len1 - (intOf s25).toNat)
    case atStart => exact ⟨0, 0, 0, 0, by omega, rfl, BO, B2⟩
    case round =>
      obtain ⟨k, D, P, B, hk, rfl, BR, BB⟩ := hrel
      by_cases hlt : k < len1
      · obtain ⟨b, off, kd, x, rfl, x1, x2, hx⟩ := W1.out.at BB hlt
        obtain ⟨y0, y1⟩ := bounds_u64 hx
        have BR' : Hid (Both (wr.alloc (.cells #[.int .i64 kd, .int .u64 x] 31)) w.heap.size w.heap.size w1.heap.size D P B a0) := Lib.hid (BR.out.alloc _)
        have BB' : Below w.heap.size w (wr.alloc (.cells #[.int .i64 kd, .int .u64 x] 31)) := BB.alloc BB.size _
        clear BR BB hx
        go_wp2_with fail
        clear x1 x2
        generalize wr.alloc (.cells #[.int .i64 kd, .int .u64 x] 31) = W at *
        refine (do_any _ _ _ kd x D P B a0 W BR'.out y0 y1).mono ?_
        rintro e w5 ⟨r, D', P', B', rfl, r0, r1, hr, bo, bel, _⟩
        have BO5 := Lib.hid bo
        have B5 := bel w BB'
        clear hr bo bel BR' BB'
        go_wp2_with fail
        go_roundw
        case rel => exact ⟨k + 1, D', P', B', by omega, by go_num, BO5, B5⟩
        case measure => simp [intOf]; omega
      · obtain rfl : k = len1 := by omega
        clear hlt
        have hlt : ¬ k < k := by omega
        have HR := Lib.hid (room_any _ D P B a0 wr BR.out.1 BR.out.2.2.2.2.2)
        have HRM := Lib.hid (room_le (D := D) (P := P) (B := B) (C := a0) (x := a2))
        generalize roomOf D P B a0 = rm at *
        go_wp2_with fail
        refine HR.out.mono ?_
        rintro e w3 ⟨rfl, m, hw3⟩
        have BO3 : Hid (Both w3 w.heap.size w.heap.size w1.heap.size D P B a0) := Lib.hid (hw3 ▸ BR.out.drewN m)
        have B3 : Below w.heap.size w w3 := hw3 ▸ below_drewN BB m
        clear hw3 BR BB HR
        go_wp2_with fail
        refine (alive_any _).mono ?_
        rintro e w4 ⟨rfl, b4⟩
        have BO4 : Hid (Both w4 w.heap.size w.heap.size w1.heap.size D P B a0) := Lib.hid (BO3.out.below b4)
        have B4 := B3.trans (b4.mono B3.size)
        clear b4 BO3 B3
        have key : ∃ r : Int, (r == 0) = decide (a2 ≤ rm) ∧ Calls Try.prog 18 #[.pointer (some ⟨w.heap.size, 0, none⟩), .int .u64 a2] w4 fun e w' => e = .returned (.int .i64 r) ∧ Below w.heap.size w w' := by
          have hF := BO4.out.2.2.2.2.2
          by_cases h1 : a2 ≤ a0 - (D - P - B)
          · by_cases h2 : D + a2 ≤ 18446744073709551615
            · refine ⟨0, by have := HRM.out.2 ⟨h1, h2⟩; simpa using this, (deposit_ok _ D P B a0 a2 w4 BO4.out.1 hF (by omega) h1 h2).mono fun e w' ⟨he, _, hg⟩ => ⟨he, below_only B4 hg B4.size (Nat.le_refl _)⟩⟩
            · refine ⟨10, by have : ¬ a2 ≤ rm := fun h => h2 (HRM.out.1 h).2; simpa using this, (deposit_over _ D P B a0 a2 w4 BO4.out.1 hF (by omega) (by omega) h1 (by omega)).mono fun e w' ⟨he, hb⟩ => ⟨he, B4.trans (hb.mono B4.size)⟩⟩
          · refine ⟨4, by have : ¬ a2 ≤ rm := fun h => h1 (HRM.out.1 h).1; simpa using this, (deposit_supply _ D P B a0 a2 w4 BO4.out.1 hF (by omega)).mono fun e w' ⟨he, m, hm⟩ => ⟨he, hm ▸ below_drewN B4 m⟩⟩
        obtain ⟨r, hr, hcall⟩ := key
        have HC := Lib.hid hcall
        have HRR := Lib.hid hr
        clear hcall hr HRM
        go_wp2_with fail
        refine HC.out.mono ?_
        rintro e w5 ⟨rfl, B5⟩
        have hr := HRR.out
        by_cases hle : a2 ≤ rm
        · have hz : r = 0 := by simpa [hle] using hr
          subst hz
          clear hr HRR HC
          go_wp2_with fail
          go_ret
          exact ⟨rfl, B5⟩
        · have hz : (r == 0) = false := by simpa [hle] using hr
          clear hr HRR HC
          go_wp2_with fail
          go_ret
          exact ⟨ret_bool (a := !decide (a2 ≤ rm)) (by simpa using hle), B5⟩
end Go.Proofs.Ytifjpfalokfhgaa
