/- The walk of PartialParts. -/
import Derived.Test.YtbieokgdjhkebaaArr
namespace Go.Proofs.Ytbieokgdjhkebaa
open Go Go.RowKit Go.Deep
set_option linter.unusedVariables false
set_option linter.unusedSimpArgs false
set_option maxRecDepth 100000

/-- The law's three boxes. -/
def VAC (w W : World) (v : Val) (a : Int × Int) (c : Nat → Int) : Prop := Blk W w.heap.size 33 (cellsV v) ∧ Blk W (w.heap.size + 1) 54 (cellsA a) ∧ Blk W (w.heap.size + 2) 35 (cellsOf c) ∧ Below w.heap.size w W
theorem VAC.new (w : World) (v : Val) (a : Int × Int) (c : Nat → Int) : VAC w (((w.alloc (.cells (cellsV v) 33)).alloc (.cells (cellsA a) 54)).alloc (.cells (cellsOf c) 35)) v a c :=
  ⟨((Blk.new w _ _).alloc _).alloc _, (two_second w _ _ _).alloc _, by
    have := Blk.new ((w.alloc (.cells (cellsV v) 33)).alloc (.cells (cellsA a) 54)) 35 (cellsOf c)
    simpa using this, (below_two _ _ _).alloc (by simp <;> omega) _⟩
theorem VAC.next {w W W' : World} {v : Val} {a : Int × Int} {c : Nat → Int} (h : VAC w W v a c) (hb : Below W.heap.size W W') : VAC w W' v a c := ⟨h.1.below hb h.1.lt, h.2.1.below hb h.2.1.lt, h.2.2.1.below hb h.2.2.1.lt, h.2.2.2.trans (hb.mono h.2.2.2.size)⟩
set_option maxHeartbeats 800000 in
theorem parts_bad (a0 : Val) (a1 : Int × Int) (a2 : Nat → Int) (w : World) (hc : chk a2 ≠ 0) :
    Calls Try.prog 8 #[.agg (cellsV a0), .agg (cellsA a1), .agg (cellsOf a2)] w fun e w' => e = .returned (.bool true) ∧ Below w.heap.size w w' := by
  have T0 := Lib.hid (VAC.new w a0 a1 a2)
  have HK := Lib.hid (refCheck_any a2)
  have HV := Lib.hid alive_any
  have hn : (chk a2 != 0) = true := by simpa using hc
  generalize chk a2 = x at *
  clear hc
  go_enter Try.func8, Try.ntmps8
  go_upto_region 1 with (fail)
  generalize ((w.alloc (.cells (cellsV a0) 33)).alloc (.cells (cellsA a1) 54)).alloc (.cells (cellsOf a2) 35) = W at *
  go_wp2_with (first | (refine wpList_load_row rfl 35 _ rfl (w.heap.size + 2) rfl 35 _ (0, 0) _ T0.out.2.2.1 Try.underlying35 rfl info24 ?_))
  refine (HK.out _).mono ?_
  rintro e w1 ⟨rfl, b1⟩
  have T1 := Lib.hid (T0.out.next b1)
  clear b1 T0
  go_wp2_with fail
  refine (HV.out _).mono ?_
  rintro e w2 ⟨rfl, b2⟩
  have T2 := Lib.hid (T1.out.next b2)
  clear b2 T1
  go_wp2
  go_ret
  exact ⟨rfl, T2.out.2.2.2⟩
set_option maxHeartbeats 3200000 in
theorem parts_good (a0 : Val) (a b : Int) (a2 : Nat → Int) (w : World) (w0 : FitsV a0) (ha : 0 ≤ a ∧ a ≤ 4294967295) (hb : 0 ≤ b ∧ b ≤ 4294967295) (hc : chk a2 = 0) (hm : 0 ≤ a2 5) :
    Calls Try.prog 8 #[.agg (cellsV a0), .agg (cellsA (a, b)), .agg (cellsOf a2)] w fun e w' => e = .returned (.bool true) ∧ Below w.heap.size w w' := by
  have T0 := Lib.hid (VAC.new w a0 (a, b) a2)
  have HK := Lib.hid (refCheck_any a2)
  have HV := Lib.hid alive_any
  rw [hc] at HK
  have tw := paid_twice (x := a) (y := b) w0 hm ha.1 hb.1
  have w1 := app_fits (x := a) w0 hm ha.1
  have H1 := Lib.hid (fun w => apply_any a0 a a2 w w0 hm ha.1)
  have H2 := Lib.hid (fun w => apply_any (appV a0 a (a2 5)) b a2 w w1 hm hb.1)
  have H3 := Lib.hid (fun w => apply_any a0 (a + b) a2 w w0 hm (by omega))
  have p1 := paid_bounds (x := a) w0 hm ha.1
  have p2 := paid_bounds (x := b) w1 hm hb.1
  have p3 := paid_bounds (x := a + b) w0 hm (by omega)
  have wa : IntKind.u64.wrap a = a := by simp [IntKind.wrap, IntKind.signed, IntKind.bits]; omega
  have wb : IntKind.u64.wrap b = b := by simp [IntKind.wrap, IntKind.signed, IntKind.bits]; omega
  obtain ⟨s, hs⟩ : ∃ s, a + b = s := ⟨_, rfl⟩
  have ws : IntKind.u64.wrap (a + b) = s := by
    rw [hs]
    have : 0 ≤ s ∧ s ≤ 8589934590 := by omega
    simp [IntKind.wrap, IntKind.signed, IntKind.bits]; omega
  rw [hs] at H3 tw p3
  rw [tw.1] at H2
  obtain ⟨k, hk⟩ : ∃ k, paidX a0 s (a2 5) = k := ⟨_, rfl⟩
  obtain ⟨n, hn⟩ : ∃ n, paidX a0 a (a2 5) = n := ⟨_, rfl⟩
  obtain ⟨m, hm'⟩ : ∃ m, paidX (appV a0 a (a2 5)) b (a2 5) = m := ⟨_, rfl⟩
  have wk : IntKind.u64.wrap (n + m) = k := by
    have h1 : n + m = k := by rw [← hn, ← hm', ← hk]; exact tw.2
    rw [h1]
    have := w0.bal
    rw [hk] at p3
    have h3 : 0 ≤ k := by omega
    have h4 : k ≤ 18446744073709551615 := by omega
    simp [IntKind.wrap, IntKind.signed, IntKind.bits]; omega
  have ek : (k == k) = true := by simp
  rw [hn] at H1
  rw [hm'] at H2
  rw [hk] at H3
  obtain ⟨x1, hx1⟩ : ∃ x1, appV a0 a (a2 5) = x1 := ⟨_, rfl⟩
  obtain ⟨y, hy⟩ : ∃ y, appV a0 s (a2 5) = y := ⟨_, rfl⟩
  rw [hx1] at H1 H2
  rw [hy] at H2 H3
  have hz := valz_cells
  clear w0 ha hb hc hm tw w1 p1 p2 p3 hs hk hn hm' hx1 hy
  go_enter Try.func8, Try.ntmps8
  go_upto_region 1 with (fail)
  generalize ((w.alloc (.cells (cellsV a0) 33)).alloc (.cells (cellsA (a, b)) 54)).alloc (.cells (cellsOf a2) 35) = W at *
  go_wp2_with (first | (refine wpList_load_row rfl 35 _ rfl (w.heap.size + 2) rfl 35 _ (0, 0) _ T0.out.2.2.1 Try.underlying35 rfl info24 ?_))
  refine (HK.out _).mono ?_
  rintro e w1 ⟨rfl, b1⟩
  have T1 := Lib.hid (T0.out.next b1)
  clear b1 T0 HK
  have x0 : w1.cell? ⟨w.heap.size + 1, 0, none⟩ = some (.int .u32 a) := T1.out.2.1.cell 0
  have x1' : w1.cell? ⟨w.heap.size + 1, 1, none⟩ = some (.int .u32 b) := T1.out.2.1.cell 1
  go_wp2
  go_quiet (fail)
  have T2 := Lib.hid (T1.out.next (below_drewN (Below.refl _ w1) nq))
  clear T1 x0 x1' wa wb
  generalize w1.drewN nq = w2 at *
  go_wp2_with (first | (refine wpList_load_row rfl 33 _ rfl w.heap.size rfl 33 _ (0, 0) _ T2.out.1 Try.underlying33 rfl infoV ?_) | (refine wpList_load_row rfl 35 _ rfl (w.heap.size + 2) rfl 35 _ (0, 0) _ T2.out.2.2.1 Try.underlying35 rfl info24 ?_))
  refine (H1.out _).mono ?_
  rintro e w3 ⟨rfl, b3⟩
  have T3 := Lib.hid (T2.out.next b3)
  clear b3 T2 H1
  go_upto_region 5 with (first | (refine wpList_store_row rfl _ _ _ rfl w3.heap.size (cellsV x1) rfl rfl 33 _ (Blk.new w3 _ (cellsV val0)) infoV rfl (cellsV_one _) ?_; rw [World.setRow_alloc_new]))
  have T4 := Lib.hid (T3.out.next ((Below.refl _ w3).alloc (Nat.le_refl _) (.cells (cellsV x1) 33)))
  have U4 : Hid (Blk (w3.alloc (.cells (cellsV x1) 33)) w3.heap.size 33 (cellsV x1) ∧ w.heap.size + 2 < w3.heap.size) := Lib.hid ⟨Blk.new _ _ _, T3.out.2.2.1.lt⟩
  clear T3
  generalize w3.alloc (.cells (cellsV x1) 33) = w4 at *
  generalize w3.heap.size = xb at *
  try simp only [Act.put]
  go_wp2_with (first | (refine wpList_load_row rfl 33 _ rfl xb rfl 33 _ (0, 0) _ U4.out.1 Try.underlying33 rfl infoV ?_) | (refine wpList_load_row rfl 35 _ rfl (w.heap.size + 2) rfl 35 _ (0, 0) _ T4.out.2.2.1 Try.underlying35 rfl info24 ?_))
  refine (H2.out _).mono ?_
  rintro e w5 ⟨rfl, b5⟩
  have T5 : Hid (VAC w w5 a0 (a, b) a2 ∧ Blk w5 xb 33 (cellsV x1)) := Lib.hid ⟨T4.out.next b5, U4.out.1.below b5 U4.out.1.lt⟩
  clear b5 T4 H2
  go_upto_region 6 with (first | (refine wpList_store_row rfl _ _ _ rfl xb (cellsV y) rfl rfl 33 _ T5.out.2 infoV rfl (cellsV_one _) ?_))
  have T6 : Hid (VAC w (w5.setRow xb (cellsV y)) a0 (a, b) a2 ∧ Blk (w5.setRow xb (cellsV y)) xb 33 (cellsV y)) := Lib.hid (by
    have hx := U4.out.2
    obtain ⟨⟨h1, h2, h3, h4⟩, h5⟩ := T5.out
    exact ⟨⟨h1.setRow_far (by omega) _, h2.setRow_far (by omega) _, h3.setRow_far (by omega) _, below_setRow h4 (by omega) _⟩, setRow_heap _ _ _ _ _ _ h5⟩)
  clear T5 U4
  generalize w5.setRow xb (cellsV y) = w6 at *
  try simp only [Act.put]
  go_wp2_with (first | (refine wpList_load_row rfl 33 _ rfl w.heap.size rfl 33 _ (0, 0) _ T6.out.1.1 Try.underlying33 rfl infoV ?_) | (refine wpList_load_row rfl 35 _ rfl (w.heap.size + 2) rfl 35 _ (0, 0) _ T6.out.1.2.2.1 Try.underlying35 rfl info24 ?_))
  refine (H3.out _).mono ?_
  rintro e w7 ⟨rfl, b7⟩
  have T7 : Hid (Below w.heap.size w w7 ∧ Blk w7 xb 33 (cellsV y)) := Lib.hid ⟨(T6.out.1.next b7).2.2.2, T6.out.2.below b7 T6.out.2.lt⟩
  clear b7 T6 H3
  go_upto_region 7 with (first | (refine wpList_store_row rfl _ _ _ rfl w7.heap.size (cellsV y) rfl rfl 33 _ (Blk.new w7 _ (cellsV val0)) infoV rfl (cellsV_one _) ?_; rw [World.setRow_alloc_new]))
  have T8 : Hid (Below w.heap.size w (w7.alloc (.cells (cellsV y) 33)) ∧ Blk (w7.alloc (.cells (cellsV y) 33)) xb 33 (cellsV y) ∧ Blk (w7.alloc (.cells (cellsV y) 33)) w7.heap.size 33 (cellsV y)) := Lib.hid ⟨T7.out.1.alloc T7.out.1.size _, T7.out.2.alloc _, Blk.new _ _ _⟩
  clear T7
  generalize w7.alloc (.cells (cellsV y) 33) = w8 at *
  generalize w7.heap.size = yb at *
  try simp only [Act.put]
  go_wp2_with fail
  refine (HV.out _).mono ?_
  rintro e w9 ⟨rfl, b9⟩
  have T9 : Hid (Below w.heap.size w w9 ∧ Blk w9 xb 33 (cellsV y) ∧ Blk w9 yb 33 (cellsV y)) := Lib.hid ⟨T8.out.1.trans (b9.mono T8.out.1.size), T8.out.2.1.below b9 T8.out.2.1.lt, T8.out.2.2.below b9 T8.out.2.2.lt⟩
  clear b9 T8
  go_wp2_with (first | (refine isload 33 _ (by with_reducible rfl) ?_; refine wpList_load_rowH 33 _ rfl xb rfl rfl 33 (cellsV y) (0, 0) _ T9.out.2.1 Try.underlying33 rfl infoV ?_) | (refine isload 33 _ (by with_reducible rfl) ?_; refine wpList_load_rowH 33 _ rfl yb rfl rfl 33 (cellsV y) (0, 0) _ T9.out.2.2 Try.underlying33 rfl infoV ?_) | (refine wpList_valG_val (.bool true) rfl (exec_eqv (p := y) (q := y) rfl rfl (by simp)) ?_))
  go_ret
  exact ⟨rfl, T9.out.1⟩
theorem walk_PartialParts (a0 : Val) (a1 : Int × Int) (a2 : Nat → Int) (w : World) (w0 : FitsV a0) (w1 : FitsA a1) (w2 : Fits a2) :
    Calls Try.prog 8 #[.agg (cellsV a0), .agg (cellsA a1), .agg (cellsOf a2)] w fun e w' => e = .returned (.bool true) ∧ Below w.heap.size w w' := by
  by_cases hc : chk a2 = 0
  · exact parts_good a0 a1.1 a1.2 a2 w w0 (bounds_u32 w1.1) (bounds_u32 w1.2) hc (good_of_chk w2 hc).1
  · exact parts_bad a0 a1 a2 w hc
end Go.Proofs.Ytbieokgdjhkebaa
