/- The walk of PartialApplies. -/
import Derived.Test.YtbieokgdjhkebaaTwo
namespace Go.Proofs.Ytbieokgdjhkebaa
open Go Go.RowKit Go.Deep
set_option linter.unusedVariables false
set_option linter.unusedSimpArgs false
set_option maxRecDepth 100000

set_option maxHeartbeats 800000 in
theorem applies_bad (a0 : Val) (a1 : Int) (a2 : Nat → Int) (w : World) (hc : chk a2 ≠ 0) :
    Calls Try.prog 4 #[.agg (cellsV a0), .int .u64 a1, .agg (cellsOf a2)] w fun e w' => e = .returned (.bool true) ∧ Below w.heap.size w w' := by
  have T0 := Lib.hid (VC.new w a0 a2)
  have HK := Lib.hid (refCheck_any a2)
  have HV := Lib.hid alive_any
  have hn : (chk a2 != 0) = true := by simpa using hc
  generalize chk a2 = x at *
  clear hc
  go_enter Try.func4, Try.ntmps4
  go_upto_region 1 with (fail)
  generalize (w.alloc (.cells (cellsV a0) 33)).alloc (.cells (cellsOf a2) 35) = W at *
  go_wp2_with (first | (refine wpList_load_row rfl 35 _ rfl (w.heap.size + 1) rfl 35 _ (0, 0) _ T0.out.2.1 Try.underlying35 rfl info24 ?_))
  refine (HK.out _).mono ?_
  rintro e w1 ⟨rfl, b1⟩
  have T1 := Lib.hid (T0.out.next b1)
  clear b1 T0
  go_wp2_with fail
  refine (HV.out _).mono ?_
  rintro e w2 ⟨rfl, b2⟩
  have T2 := Lib.hid (T1.out.next b2)
  clear b2 T1
  go_wp2
  go_ret
  exact ⟨rfl, T2.out.2.2⟩
set_option maxHeartbeats 3200000 in
theorem applies_good (a0 : Val) (a1 : Int) (a2 : Nat → Int) (w : World) (w0 : FitsV a0) (w1 : 0 ≤ a1) (hc : chk a2 = 0) (hm : 0 ≤ a2 5) :
    Calls Try.prog 4 #[.agg (cellsV a0), .int .u64 a1, .agg (cellsOf a2)] w fun e w' => e = .returned (.bool true) ∧ Below w.heap.size w w' := by
  have T0 := Lib.hid (VC.new w a0 a2)
  have HK := Lib.hid (refCheck_any a2)
  have HV := Lib.hid alive_any
  rw [hc] at HK
  have HR := Lib.hid (fun w => refavail_any a0 a2 w w0 hm)
  have HP := Lib.hid (fun w => avail_any a0 a2 w w0 hm)
  have HA := Lib.hid (fun w => apply_any a0 a1 a2 w w0 hm w1)
  have pb := paid_bounds (x := a1) w0 hm w1
  obtain ⟨p, hp⟩ : ∃ p, paidX a0 a1 (a2 5) = p := ⟨_, rfl⟩
  obtain ⟨A, hA⟩ : ∃ A, avail a0 (a2 5) = A := ⟨_, rfl⟩
  obtain ⟨u, hu⟩ : ∃ u, appV a0 a1 (a2 5) = u := ⟨_, rfl⟩
  have hmin : (if A < a1 then A else a1) = p := by rw [← hp, paidX, hA]
  have hmin2 : min a1 A = p := by rw [← hmin]; split <;> omega
  obtain ⟨t, ht⟩ : ∃ t, a0.bal - p = t := ⟨_, rfl⟩
  have hw : IntKind.u64.wrap (a0.bal - p) = t := by
    have := w0.bal
    rw [hp] at pb
    rw [ht]
    have h3 : 0 ≤ t := by omega
    have h4 : t ≤ 18446744073709551615 := by omega
    simp [IntKind.wrap, IntKind.signed, IntKind.bits]; omega
  have E : Hid (cellsV u = (cellsV a0).setIfInBounds 0 (.int .u64 t)) := Lib.hid (by rw [← hu, ← ht, ← hp]; rfl)
  rw [hA] at HR HP
  rw [hp, hu] at HA
  have hz := valz_cells
  clear w0 w1 hc hm hp hA hu ht pb
  go_enter Try.func4, Try.ntmps4
  go_upto_region 1 with (fail)
  generalize (w.alloc (.cells (cellsV a0) 33)).alloc (.cells (cellsOf a2) 35) = W at *
  go_wp2_with (first | (refine wpList_load_row rfl 35 _ rfl (w.heap.size + 1) rfl 35 _ (0, 0) _ T0.out.2.1 Try.underlying35 rfl info24 ?_))
  refine (HK.out _).mono ?_
  rintro e w1 ⟨rfl, b1⟩
  have T1 := Lib.hid (T0.out.next b1)
  clear b1 T0 HK
  go_wp2_with (first | (refine wpList_load_row rfl 33 _ rfl w.heap.size rfl 33 _ (0, 0) _ T1.out.1 Try.underlying33 rfl infoV ?_) | (refine wpList_load_row rfl 35 _ rfl (w.heap.size + 1) rfl 35 _ (0, 0) _ T1.out.2.1 Try.underlying35 rfl info24 ?_))
  refine (HR.out _).mono ?_
  rintro e w2 ⟨rfl, b2⟩
  have T2 := Lib.hid (T1.out.next b2)
  clear b2 T1 HR
  go_wp2_with (first | (refine wpList_load_row rfl 33 _ rfl w.heap.size rfl 33 _ (0, 0) _ T2.out.1 Try.underlying33 rfl infoV ?_) | (refine wpList_load_row rfl 35 _ rfl (w.heap.size + 1) rfl 35 _ (0, 0) _ T2.out.2.1 Try.underlying35 rfl info24 ?_))
  refine (HA.out _).mono ?_
  rintro e w3 ⟨rfl, b3⟩
  have T3 := Lib.hid (T2.out.next b3)
  clear b3 T2 HA
  go_upto_region 5 with (first | (refine wpList_store_row rfl _ _ _ rfl w3.heap.size (cellsV u) rfl rfl 33 _ (Blk.new w3 _ (cellsV val0)) infoV rfl (cellsV_one _) ?_; rw [World.setRow_alloc_new]))
  have T4 := Lib.hid (T3.out.next ((Below.refl _ w3).alloc (Nat.le_refl _) (.cells (cellsV u) 33)))
  have U4 : Hid (Blk (w3.alloc (.cells (cellsV u) 33)) w3.heap.size 33 (cellsV u) ∧ w.heap.size ≤ w3.heap.size) := Lib.hid ⟨Blk.new _ _ _, T3.out.2.2.size⟩
  clear T3
  generalize w3.alloc (.cells (cellsV u) 33) = w4 at *
  generalize w3.heap.size = ub at *
  try simp only [Act.put]
  go_upto_region 6 with (first | (refine wpList_load_row rfl 33 _ rfl w.heap.size rfl 33 _ (0, 0) _ T4.out.1 Try.underlying33 rfl infoV ?_) | (refine wpList_store_row rfl _ _ _ rfl w4.heap.size (cellsV a0) rfl rfl 33 _ (Blk.new w4 _ (cellsV val0)) infoV rfl (cellsV_one _) ?_; rw [World.setRow_alloc_new]))
  have T5 := Lib.hid (T4.out.next ((Below.refl _ w4).alloc (Nat.le_refl _) (.cells (cellsV a0) 33)))
  have U5 : Hid (Blk (w4.alloc (.cells (cellsV a0) 33)) ub 33 (cellsV u) ∧ Blk (w4.alloc (.cells (cellsV a0) 33)) w4.heap.size 33 (cellsV a0) ∧ ub < w4.heap.size ∧ w.heap.size < w4.heap.size ∧ w.heap.size + 1 < w4.heap.size) := Lib.hid ⟨U4.out.1.alloc _, Blk.new _ _ _, U4.out.1.lt, T4.out.1.lt, T4.out.2.1.lt⟩
  clear T4 U4
  generalize w4.alloc (.cells (cellsV a0) 33) = w5 at *
  generalize w4.heap.size = xb at *
  try simp only [Act.put]
  have x0 : w5.cell? ⟨xb, 0, none⟩ = some (.int .u64 a0.bal) := U5.out.2.1.cell 0
  have f0 := U5.out.2.1.frozen 0
  go_upto_region 7 with (fail)
  have T6 : Hid (VC w (w5.setCell ⟨xb, 0, none⟩ (.int .u64 t)) a0 a2 ∧ Blk (w5.setCell ⟨xb, 0, none⟩ (.int .u64 t)) ub 33 (cellsV u) ∧ Blk (w5.setCell ⟨xb, 0, none⟩ (.int .u64 t)) xb 33 (cellsV u)) := Lib.hid (by
    have h := U5.out
    refine ⟨⟨T5.out.1.far (by simp only; omega) _, T5.out.2.1.far (by simp only; omega) _, T5.out.2.2.setCell (by simp only; omega) _⟩, h.1.far (by simp only; omega) _, ?_⟩
    have := h.2.1.set_ 0 (.int .u64 t)
    rw [E.out]
    exact this)
  clear T5 U5 x0 f0 E hw
  generalize w5.setCell ⟨xb, 0, none⟩ (.int .u64 t) = w6 at *
  go_wp2_with fail
  refine (HV.out _).mono ?_
  rintro e w7 ⟨rfl, b7⟩
  have T7 : Hid (VC w w7 a0 a2 ∧ Blk w7 ub 33 (cellsV u) ∧ Blk w7 xb 33 (cellsV u)) := Lib.hid ⟨T6.out.1.next b7, T6.out.2.1.below b7 T6.out.2.1.lt, T6.out.2.2.below b7 T6.out.2.2.lt⟩
  clear b7 T6
  go_wp2_with (first | (refine isload 33 _ (by with_reducible rfl) ?_; refine wpList_load_rowH 33 _ rfl w.heap.size rfl rfl 33 (cellsV a0) (0, 0) _ T7.out.1.1 Try.underlying33 rfl infoV ?_) | (refine isload 35 _ (by with_reducible rfl) ?_; refine wpList_load_rowH 35 _ rfl (w.heap.size + 1) rfl rfl 35 (cellsOf a2) (0, 0) _ T7.out.1.2.1 Try.underlying35 rfl info24 ?_))
  refine (HP.out _).mono ?_
  rintro e w8 ⟨rfl, b8⟩
  have T8 : Hid (Below w.heap.size w w8 ∧ Blk w8 ub 33 (cellsV u) ∧ Blk w8 xb 33 (cellsV u)) := Lib.hid ⟨(T7.out.1.next b8).2.2, T7.out.2.1.below b8 T7.out.2.1.lt, T7.out.2.2.below b8 T7.out.2.2.lt⟩
  clear b8 T7
  have e1 : (A == A) = true := by simp
  have e2 : (p == p) = true := by simp
  go_wp2_with (first | (refine isload 33 _ (by with_reducible rfl) ?_; refine wpList_load_rowH 33 _ rfl ub rfl rfl 33 (cellsV u) (0, 0) _ T8.out.2.1 Try.underlying33 rfl infoV ?_) | (refine isload 33 _ (by with_reducible rfl) ?_; refine wpList_load_rowH 33 _ rfl xb rfl rfl 33 (cellsV u) (0, 0) _ T8.out.2.2 Try.underlying33 rfl infoV ?_) | (refine wpList_valG_val (.bool true) rfl (exec_eqv (p := u) (q := u) rfl rfl (by simp)) ?_))
  go_ret
  exact ⟨rfl, T8.out.1⟩
theorem walk_PartialApplies (a0 : Val) (a1 : Int) (a2 : Nat → Int) (w : World) (w0 : FitsV a0) (w1 : (Lit.int .u64 a1).wf = true) (w2 : Fits a2) :
    Calls Try.prog 4 #[.agg (cellsV a0), .int .u64 a1, .agg (cellsOf a2)] w fun e w' => e = .returned (.bool true) ∧ Below w.heap.size w w' := by
  by_cases hc : chk a2 = 0
  · exact applies_good a0 a1 a2 w w0 (bounds_u64 w1).1 hc (good_of_chk w2 hc).1
  · exact applies_bad a0 a1 a2 w hc
end Go.Proofs.Ytbieokgdjhkebaa
