/- The walk of MeterConserves. -/
import Derived.Test.YtbebmdbhoombgaaLive
import Derived.Test.YtbebmdbhoombgaaOpen
import Derived.OpenShut
namespace Go.Proofs.Ytbebmdbhoombgaa
open Go Go.RowKit Go.OpenShut
set_option linter.unusedVariables false
set_option linter.unusedSimpArgs false

theorem Both.new_ {w w1 : World} (h : Own w w1 w.heap.size 0 0 0 0) (hs : w1.heap.size = w.heap.size + 1) :
    Both (w1.alloc (.cells #[.int .u64 0, .int .u64 0, .int .u64 0, .int .u64 0, .int .u64 0] 28)) w.heap.size w.heap.size w1.heap.size 0 0 0 0 :=
  ⟨Blk.alloc h.1 _, Blk.new _ _ _, by omega, Nat.le_refl _, by omega, fits_zero⟩
theorem sum_eq {B S T D : Int} (hF : Fits B S T D) : ∃ X, IntKind.u64.wrap (B + T) = X ∧ IntKind.u64.wrap (X + D) = gOf B T D := by
  refine ⟨_, rfl, ?_⟩
  obtain ⟨f0, f1, f2, f3, f4, f5, f6⟩ := hF
  simp only [IntKind.wrap_u64, gOf]
  omega

set_option maxHeartbeats 800000 in
theorem walk_MeterConserves (a0 : Option Addr) (len0 cap0 : Nat) (w : World) (w0 : IsOps w a0 len0 cap0) :
    Calls Try.prog 4 #[.slice a0 len0 cap0] w fun e w' => e = .returned (.bool true) ∧ Below w.heap.size w w' := by
  have W1 := Lib.hid w0
  have hl1 : len0 ≤ 9223372036854775807 := by have := w0.1; have := w0.2.1; unfold maxLen at this; omega
  clear w0
  go_enter Try.func4, Try.ntmps4
  go_wp2_with fail
  refine (Own.new _).mono ?_
  rintro e w1 ⟨rfl, o1, s1, b1⟩
  have BO : Hid (Both (w1.alloc (.cells #[.int .u64 0, .int .u64 0, .int .u64 0, .int .u64 0, .int .u64 0] 28)) w.heap.size w.heap.size w1.heap.size 0 0 0 0) := Lib.hid (Both.new_ o1.out s1.out)
  have B2 : Hid (Below w.heap.size w (w1.alloc (.cells #[.int .u64 0, .int .u64 0, .int .u64 0, .int .u64 0, .int .u64 0] 28))) := Lib.hid (b1.out.alloc b1.out.size _)
  clear o1 s1 b1
  by_cases h1000 : (1000 : Int) < (len0 : Int)
  · go_wp2_with fail
    generalize w1.alloc (.cells #[.int .u64 0, .int .u64 0, .int .u64 0, .int .u64 0, .int .u64 0] 28) = w2 at *
    refine (alive_any _).mono ?_
    rintro e w3 ⟨rfl, b3⟩
    go_wp2_with fail
    go_ret
    exact ⟨rfl, B2.out.trans (b3.mono B2.out.size)⟩
  · go_wp2_with fail
    generalize w1.alloc (.cells #[.int .u64 0, .int .u64 0, .int .u64 0, .int .u64 0, .int .u64 0] 28) = w2 at *
    generalize w1.heap.size = v at *
    go_loopw [19] (fun s19 wr => ∃ (k : Nat) (B S T D : Int), k ≤ len0 ∧ s19 = .int .i64 k ∧ Hid (Both wr w.heap.size w.heap.size v B S T D ∧ Below w.heap.size w wr)) (fun s19 _ => len0 - (intOf s19).toNat)
    case atStart => exact ⟨0, 0, 0, 0, 0, by omega, rfl, Lib.hid ⟨BO.out, B2.out⟩⟩
    case round =>
      obtain ⟨k, B, S, T, D, hk, rfl, H⟩ := hrel
      by_cases hlt : k < len0
      · obtain ⟨b, off, kd, x, rfl, x1, x2, hx⟩ := W1.out.at H.out.2 hlt
        obtain ⟨y0, y1⟩ := bounds_u64 hx
        have BR' : Hid (Both (wr.alloc (.cells #[.int .i64 kd, .int .u64 x] 31)) w.heap.size w.heap.size v B S T D) := Lib.hid (H.out.1.alloc _)
        have BB' : Hid (Below w.heap.size w (wr.alloc (.cells #[.int .i64 kd, .int .u64 x] 31))) := Lib.hid (H.out.2.alloc H.out.2.size _)
        clear H hx
        go_wp2_with fail
        clear x1 x2
        generalize wr.alloc (.cells #[.int .i64 kd, .int .u64 x] 31) = W at *
        refine (do_any _ _ _ kd x B S T D W BR'.out y0).mono ?_
        rintro e w5 ⟨B', S', T', D', rfl, bo, bel, _⟩
        have BO5 := Lib.hid bo
        have B5 := Lib.hid (bel w BB'.out)
        clear bo bel BR' BB'
        go_wp2_with fail
        refine (totals_any _ B' S' T' D' w5 BO5.out.1).mono ?_
        rintro e w6 ⟨rfl, b6⟩
        have BO6 : Hid (Both (w6.alloc (.cells #[.int .u64 (gOf B' T' D'), .int .u64 T', .int .u64 D'] 35)) w.heap.size w.heap.size v B' S' T' D') := Lib.hid (Both.alloc (BO5.out.below b6) _)
        have B6 : Hid (Below w.heap.size w (w6.alloc (.cells #[.int .u64 (gOf B' T' D'), .int .u64 T', .int .u64 D'] 35))) := Lib.hid ((B5.out.trans (b6.mono B5.out.size)).alloc (Nat.le_trans B5.out.size b6.size) _)
        have T6 : Hid (Blk (w6.alloc (.cells #[.int .u64 (gOf B' T' D'), .int .u64 T', .int .u64 D'] 35)) w6.heap.size 35 #[.int .u64 (gOf B' T' D'), .int .u64 T', .int .u64 D']) := Lib.hid (Blk.new _ _ _)
        obtain ⟨X, hX, hY⟩ := sum_eq BO6.out.fits
        have HB : Hid (∀ n (W : World), Both W w.heap.size w.heap.size v B' S' T' D' → Calls Try.prog 12 #[.pointer (some ⟨w.heap.size, 0, none⟩)] (W.drewN n) fun e w' => e = .returned (.int .u64 B') ∧ ∃ m, w' = (W.drewN n).drewN m) := Lib.hid (fun n W h => balance_any _ B' S' T' D' _ (Blk.drewN h.1 n) h.fits)
        clear b6 BO5 B5
        generalize hg : gOf B' T' D' = G at *
        go_wp2_with (first | (refine wpList_store_row rfl _ _ _ rfl w6.heap.size #[.int .u64 G, .int .u64 T', .int .u64 D'] rfl rfl 35 _ (heap_alloc_new w6 _) infoT rfl rfl ?_; rw [World.setRow_alloc_new]) | fail)
        generalize w6.alloc (.cells #[.int .u64 G, .int .u64 T', .int .u64 D'] 35) = V at *
        have t0 := T6.out.cell 0
        have t1 := T6.out.cell 1
        have t2 := T6.out.cell 2
        go_quiet ((go_at_call 12; exact Calls.quiet_of (HB.out _ _ BO6.out)))
        go_wp2_with fail
        go_roundw
        case rel => exact ⟨k + 1, B', S', T', D', by omega, by go_num, Lib.hid ⟨BO6.out.drewN _, below_drewN B6.out _⟩⟩
        case measure => simp [intOf]; omega
      · obtain rfl : k = len0 := by omega
        clear hlt
        have hlt : ¬ k < k := by omega
        have HB := Lib.hid H.out.2
        clear H
        go_wp2_with fail
        refine (alive_any _).mono ?_
        rintro e w3 ⟨rfl, b3⟩
        go_wp2_with fail
        go_ret
        exact ⟨rfl, HB.out.trans (b3.mono HB.out.size)⟩
end Go.Proofs.Ytbebmdbhoombgaa
