/- gwei.Sub; Available, and the reference's; Apply. -/
import Derived.Test.YtbieokgdjhkebaaReq
import Derived.Test.YtbieokgdjhkebaaRefCheck
namespace Go.Proofs.Ytbieokgdjhkebaa
open Go Go.RowKit Go.Deep
set_option linter.unusedVariables false
set_option linter.unusedSimpArgs false
set_option maxRecDepth 100000

theorem gsub_yes (a b : Int) (w : World) (h : b ≤ a) (h0 : 0 ≤ b) (h1 : a ≤ 18446744073709551615) : Calls Try.prog 25 #[.int .u64 a, .int .u64 b] w fun e w' => e = .returned (.tuple #[.int .u64 (a - b), .bool true]) ∧ w = w' := by
  have hw : IntKind.u64.wrap (a - b) = a - b := by simp [IntKind.wrap, IntKind.signed, IntKind.bits]; omega
  have d : decide (a < b) = false := decide_eq_false (by omega)
  clear h h0 h1
  go_enter Try.func25, Try.ntmps25
  go_wp2
  go_ret2
  exact ⟨rfl, rfl⟩
theorem gsub_no (a b : Int) (w : World) (h : a < b) : Calls Try.prog 25 #[.int .u64 a, .int .u64 b] w fun e w' => e = .returned (.tuple #[.int .u64 0, .bool false]) ∧ w = w' := by
  have d : decide (a < b) = true := decide_eq_true h
  clear h
  go_enter Try.func25, Try.ntmps25
  go_wp2
  go_ret2
  exact ⟨rfl, rfl⟩
/-- A function's two boxes: a validator and a configuration. -/
def VC (w W : World) (v : Val) (c : Nat → Int) : Prop := Blk W w.heap.size 33 (cellsV v) ∧ Blk W (w.heap.size + 1) 35 (cellsOf c) ∧ Below w.heap.size w W
theorem VC.new (w : World) (v : Val) (c : Nat → Int) : VC w ((w.alloc (.cells (cellsV v) 33)).alloc (.cells (cellsOf c) 35)) v c := ⟨(Blk.new w _ _).alloc _, two_second w _ _ _, below_two _ _ _⟩
theorem VC.next {w W W' : World} {v : Val} {c : Nat → Int} (h : VC w W v c) (hb : Below W.heap.size W W') : VC w W' v c := ⟨h.1.below hb h.1.lt, h.2.1.below hb h.2.1.lt, h.2.2.trans (hb.mono h.2.2.size)⟩
theorem VC.cells {w W : World} {v : Val} {c : Nat → Int} (h : VC w W v c) : W.cell? ⟨w.heap.size, 0, none⟩ = some (.int .u64 v.bal) ∧ W.cell? ⟨w.heap.size, 1, none⟩ = some (.int .i64 v.st) ∧ W.cell? ⟨w.heap.size, 2, none⟩ = some (.bool v.sl) ∧ W.cell? ⟨w.heap.size + 1, 5, none⟩ = some (.int .u64 (c 5)) := ⟨h.1.cell 0, h.1.cell 1, h.1.cell 2, h.2.1.cell 5⟩
theorem avail_any (v : Val) (c : Nat → Int) (w : World) (hv : FitsV v) (hm : 0 ≤ c 5) :
    Calls Try.prog 15 #[.agg (cellsV v), .agg (cellsOf c)] w fun e w' => e = .returned (.int .u64 (avail v (c 5))) ∧ Below w.heap.size w w' := by
  have T := Lib.hid (VC.new w v c)
  by_cases hs : v.st = 2
  · have ds : (v.st != 2) = false := by simp [hs]
    cases hl : v.sl with
    | true =>
      have E : Hid (avail v (c 5) = 0) := Lib.hid (by rw [avail, if_neg (by simpa using hs), if_pos hl])
      have HL := Lib.hid hl
      clear hs hl hv hm
      go_enter Try.func15, Try.ntmps15
      go_upto_region 1 with (fail)
      generalize (w.alloc (.cells (cellsV v) 33)).alloc (.cells (cellsOf c) 35) = W at *
      obtain ⟨x0, x1, x2, x3⟩ := T.out.cells
      rw [HL.out] at x2
      go_wp2
      go_ret
      exact ⟨congrArg (fun x => Ending.returned (.int .u64 x)) E.out.symm, T.out.2.2⟩
    | false =>
      have HL := Lib.hid hl
      by_cases hb : c 5 ≤ v.bal
      · have E : Hid (avail v (c 5) = v.bal - c 5) := Lib.hid (by rw [avail, if_neg (by simpa using hs), if_neg (by simp [hl])]; split <;> omega)
        have HS := Lib.hid (fun w => gsub_yes v.bal (c 5) w hb hm hv.bal.2)
        clear hs hl hv hm hb
        go_enter Try.func15, Try.ntmps15
        go_upto_region 1 with (fail)
        generalize (w.alloc (.cells (cellsV v) 33)).alloc (.cells (cellsOf c) 35) = W at *
        obtain ⟨x0, x1, x2, x3⟩ := T.out.cells
        rw [HL.out] at x2
        go_wp2_with fail
        refine (HS.out _).mono ?_
        rintro e w1 ⟨rfl, rfl⟩
        go_wp2
        go_ret
        exact ⟨congrArg (fun x => Ending.returned (.int .u64 x)) E.out.symm, T.out.2.2⟩
      · have E : Hid (avail v (c 5) = 0) := Lib.hid (by rw [avail, if_neg (by simpa using hs), if_neg (by simp [hl]), if_neg (by omega)])
        have HS := Lib.hid (fun w => gsub_no v.bal (c 5) w (by omega))
        clear hs hl hv hm hb
        go_enter Try.func15, Try.ntmps15
        go_upto_region 1 with (fail)
        generalize (w.alloc (.cells (cellsV v) 33)).alloc (.cells (cellsOf c) 35) = W at *
        obtain ⟨x0, x1, x2, x3⟩ := T.out.cells
        rw [HL.out] at x2
        go_wp2_with fail
        refine (HS.out _).mono ?_
        rintro e w1 ⟨rfl, rfl⟩
        go_wp2
        go_ret
        exact ⟨congrArg (fun x => Ending.returned (.int .u64 x)) E.out.symm, T.out.2.2⟩
  · have ds : (v.st != 2) = true := by simpa using hs
    have E : Hid (avail v (c 5) = 0) := Lib.hid (by rw [avail, if_pos (by simpa using hs)])
    clear hs hv hm
    go_enter Try.func15, Try.ntmps15
    go_upto_region 1 with (fail)
    generalize (w.alloc (.cells (cellsV v) 33)).alloc (.cells (cellsOf c) 35) = W at *
    obtain ⟨x0, x1, x2, x3⟩ := T.out.cells
    go_wp2
    go_ret
    exact ⟨congrArg (fun x => Ending.returned (.int .u64 x)) E.out.symm, T.out.2.2⟩
theorem refavail_any (v : Val) (c : Nat → Int) (w : World) (hv : FitsV v) (hm : 0 ≤ c 5) :
    Calls Try.prog 13 #[.agg (cellsV v), .agg (cellsOf c)] w fun e w' => e = .returned (.int .u64 (avail v (c 5))) ∧ Below w.heap.size w w' := by
  have T := Lib.hid (VC.new w v c)
  by_cases hs : v.st = 2
  · have ds : (v.st != 2) = false := by simp [hs]
    cases hl : v.sl with
    | true =>
      have E : Hid (avail v (c 5) = 0) := Lib.hid (by rw [avail, if_neg (by simpa using hs), if_pos hl])
      have HL := Lib.hid hl
      clear hs hl hv hm
      go_enter Try.func13, Try.ntmps13
      go_upto_region 1 with (fail)
      generalize (w.alloc (.cells (cellsV v) 33)).alloc (.cells (cellsOf c) 35) = W at *
      obtain ⟨x0, x1, x2, x3⟩ := T.out.cells
      rw [HL.out] at x2
      go_wp2
      go_ret
      exact ⟨congrArg (fun x => Ending.returned (.int .u64 x)) E.out.symm, T.out.2.2⟩
    | false =>
      have HL := Lib.hid hl
      by_cases hb : v.bal ≤ c 5
      · have E : Hid (avail v (c 5) = 0) := Lib.hid (by rw [avail, if_neg (by simpa using hs), if_neg (by simp [hl]), if_neg (by omega)])
        have d1 : decide (v.bal ≤ c 5) = true := decide_eq_true hb
        clear hs hl hv hm hb
        go_enter Try.func13, Try.ntmps13
        go_upto_region 1 with (fail)
        generalize (w.alloc (.cells (cellsV v) 33)).alloc (.cells (cellsOf c) 35) = W at *
        obtain ⟨x0, x1, x2, x3⟩ := T.out.cells
        rw [HL.out] at x2
        go_wp2
        go_ret
        exact ⟨congrArg (fun x => Ending.returned (.int .u64 x)) E.out.symm, T.out.2.2⟩
      · obtain ⟨t, ht⟩ : ∃ t, v.bal - c 5 = t := ⟨_, rfl⟩
        have E : Hid (avail v (c 5) = t) := Lib.hid (by rw [avail, if_neg (by simpa using hs), if_neg (by simp [hl]), if_pos (by omega), ht])
        have d1 : decide (v.bal ≤ c 5) = false := decide_eq_false hb
        have hw : IntKind.u64.wrap (v.bal - c 5) = t := by
          have := hv.bal
          rw [ht]
          have h3 : 0 ≤ t := by omega
          have h4 : t ≤ 18446744073709551615 := by omega
          simp [IntKind.wrap, IntKind.signed, IntKind.bits]; omega
        clear hs hl hv hm hb ht
        go_enter Try.func13, Try.ntmps13
        go_upto_region 1 with (fail)
        generalize (w.alloc (.cells (cellsV v) 33)).alloc (.cells (cellsOf c) 35) = W at *
        obtain ⟨x0, x1, x2, x3⟩ := T.out.cells
        rw [HL.out] at x2
        go_wp2
        go_ret
        exact ⟨congrArg (fun x => Ending.returned (.int .u64 x)) E.out.symm, T.out.2.2⟩
  · have ds : (v.st != 2) = true := by simpa using hs
    have E : Hid (avail v (c 5) = 0) := Lib.hid (by rw [avail, if_pos (by simpa using hs)])
    clear hs hv hm
    go_enter Try.func13, Try.ntmps13
    go_upto_region 1 with (fail)
    generalize (w.alloc (.cells (cellsV v) 33)).alloc (.cells (cellsOf c) 35) = W at *
    obtain ⟨x0, x1, x2, x3⟩ := T.out.cells
    go_wp2
    go_ret
    exact ⟨congrArg (fun x => Ending.returned (.int .u64 x)) E.out.symm, T.out.2.2⟩
theorem valz_cells : (#[.int .u64 0, .int .i64 0, .bool false, .int .i64 0, .int .i64 0, .int .i64 0, .int .i64 0] : Array Value) = cellsV val0 := rfl
set_option maxHeartbeats 800000 in
theorem apply_any (v : Val) (x : Int) (c : Nat → Int) (w : World) (hv : FitsV v) (hm : 0 ≤ c 5) (hx : 0 ≤ x) :
    Calls Try.prog 14 #[.agg (cellsV v), .int .u64 x, .agg (cellsOf c)] w fun e w' => e = .returned (.tuple #[.agg (cellsV (appV v x (c 5))), .int .u64 (paidX v x (c 5))]) ∧ Below w.heap.size w w' := by
  have T : Hid (VC w (((w.alloc (.cells (cellsV v) 33)).alloc (.cells (cellsOf c) 35)).alloc (.cells (cellsV val0) 33)) v c ∧
    Blk (((w.alloc (.cells (cellsV v) 33)).alloc (.cells (cellsOf c) 35)).alloc (.cells (cellsV val0) 33)) (w.heap.size + 2) 33 (cellsV val0)) := Lib.hid ⟨(VC.new w v c).next ((Below.refl _ _).alloc (Nat.le_refl _) _), by
      have := Blk.new ((w.alloc (.cells (cellsV v) 33)).alloc (.cells (cellsOf c) 35)) 33 (cellsV val0)
      simpa using this⟩
  have HA := Lib.hid (fun w => avail_any v c w hv hm)
  have hb := paid_bounds (x := x) hv hm hx
  obtain ⟨p, hp⟩ : ∃ p, paidX v x (c 5) = p := ⟨_, rfl⟩
  obtain ⟨A, hA⟩ : ∃ A, avail v (c 5) = A := ⟨_, rfl⟩
  have hmin : (if A < x then A else x) = p := by rw [← hp, paidX, hA]
  have hmin2 : min x A = p := by rw [← hmin]; split <;> omega
  obtain ⟨t, ht⟩ : ∃ t, v.bal - p = t := ⟨_, rfl⟩
  have hw : IntKind.u64.wrap (v.bal - p) = t := by
    have := hv.bal
    rw [hp] at hb
    rw [ht]
    have h3 : 0 ≤ t := by omega
    have h4 : t ≤ 18446744073709551615 := by omega
    simp [IntKind.wrap, IntKind.signed, IntKind.bits]; omega
  have E : Hid (cellsV (appV v x (c 5)) = (cellsV v).setIfInBounds 0 (.int .u64 t)) := Lib.hid (by rw [← ht, ← hp]; rfl)
  rw [hA] at HA
  rw [hp]
  clear hv hm hx hb hp hA ht
  go_enter Try.func14, Try.ntmps14
  go_upto_region 1 with (fail)
  simp only [valz_cells]
  generalize ((w.alloc (.cells (cellsV v) 33)).alloc (.cells (cellsOf c) 35)).alloc (.cells (cellsV val0) 33) = W at *
  go_wp2_with (first | (refine wpList_load_row rfl 33 _ rfl w.heap.size rfl 33 _ (0, 0) _ T.out.1.1 Try.underlying33 rfl infoV ?_) | (refine wpList_load_row rfl 35 _ rfl (w.heap.size + 1) rfl 35 _ (0, 0) _ T.out.1.2.1 Try.underlying35 rfl info24 ?_))
  refine (HA.out _).mono ?_
  rintro e w1 ⟨rfl, b1⟩
  have T1 : Hid (VC w w1 v c ∧ Blk w1 (w.heap.size + 2) 33 (cellsV val0)) := Lib.hid ⟨T.out.1.next b1, T.out.2.below b1 T.out.2.lt⟩
  clear T b1 HA
  have f0 := T1.out.1.1.frozen 0
  have x0 := T1.out.1.cells.1
  go_upto_region 3 with (fail)
  have Z : Hid (Blk (w1.setCell ⟨w.heap.size, 0, none⟩ (.int .u64 t)) w.heap.size 33 (cellsV (appV v x (c 5))) ∧ Blk (w1.setCell ⟨w.heap.size, 0, none⟩ (.int .u64 t)) (w.heap.size + 2) 33 (cellsV val0) ∧ Below w.heap.size w (w1.setCell ⟨w.heap.size, 0, none⟩ (.int .u64 t))) := by
    obtain ⟨⟨h1, h2, h3⟩, h4⟩ := T1.out
    refine Lib.hid ⟨?_, h4.far (by simp) _, h3.setCell (by simp) _⟩
    rw [E.out]
    exact h1.set_ 0 _
  generalize w1.setCell ⟨w.heap.size, 0, none⟩ (.int .u64 t) = w2 at *
  clear T1 x0 f0 E hw hmin hmin2
  go_wp2_with (first | (refine wpList_load_row rfl 33 _ rfl w.heap.size rfl 33 _ (0, 0) _ Z.out.1 Try.underlying33 rfl infoV ?_) | (refine wpList_store_row rfl _ _ _ rfl (w.heap.size + 2) (cellsV (appV v x (c 5))) rfl rfl 33 _ Z.out.2.1 infoV rfl (cellsV_one _) ?_))
  exact bodyPost_ret (v := .tuple #[.agg (cellsV (appV v x (c 5))), .int .u64 p]) (results_cell_row2 (fn := Try.f14) rfl _ _ (w.heap.size + 2) 33 (cellsV (appV v x (c 5))) (0, 0) _ rfl (setRow_heap _ _ _ _ _ _ Z.out.2.1) Try.underlying33 rfl infoV) rfl ⟨rfl, below_setRow Z.out.2.2 (by omega) _⟩
end Go.Proofs.Ytbieokgdjhkebaa
