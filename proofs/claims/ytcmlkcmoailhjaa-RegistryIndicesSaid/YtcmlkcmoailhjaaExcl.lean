/- exclude: a validator goes out of the sums. -/
import Derived.Test.YtcmlkcmoailhjaaSums
namespace Go.Proofs.Ytcmlkcmoailhjaa
open Go Go.RowKit Go.Deep
set_option linter.unusedVariables false

set_option maxHeartbeats 800000 in
theorem exclude_yes (b m cap : Nat) (s : Value) (c : Int → Int) (A T : Int) (v : Val) (w : World) (h : RegB w b m s cap c A T) (hv : FitsV v) (hl : liveB v.st = true)
    (hA0 : v.bal ≤ A) (hA : A ≤ 18446744073709551615) (hT0 : v.bal ≤ T) (hT : T ≤ 18446744073709551615) (hc0 : 1 ≤ c v.st) (hc1 : c v.st ≤ 4096) :
    CallsB Try.prog 34 #[.pointer (some ⟨b, 0, none⟩), .agg (cellsV v)] w fun e w' => e = .returned (.tuple #[]) ∧ RegB w' b m s cap (upd c v.st (c v.st - 1)) (A - v.bal) (T - v.bal) ∧ Kept (fun i => i = b ∨ i = m) w w' := by
  have HL : Hid (∀ w, Calls Try.prog 37 #[.int .i64 v.st] w fun e w' => e = .returned (.bool true) ∧ w = w') := Lib.hid (fun w => by have := live_any v.st w; rwa [hl] at this)
  have hK : Kept (fun i => i = b ∨ i = m) w (w.alloc (.cells (cellsV v) 29)) := (Kept.refl _ w).alloc _
  have hE : Blk (w.alloc (.cells (cellsV v) 29)) w.heap.size 29 (cellsV v) := Blk.new _ _ _
  have hne : ¬ w.heap.size = b := by have := h.1.lt; omega
  have HB := Lib.hid (h.alloc (.cells (cellsV v) 29))
  have x0 : (w.alloc (.cells (cellsV v) 29)).cell? ⟨w.heap.size, 0, none⟩ = some (.int .u64 v.bal) := hE.cell 0
  have x1 : (w.alloc (.cells (cellsV v) 29)).cell? ⟨w.heap.size, 1, none⟩ = some (.int .i64 v.st) := hE.cell 1
  obtain ⟨-, -, c2, c3, c4⟩ := HB.out.cells
  have f3 := HB.out.1.frozen 3
  have f4 := HB.out.1.frozen 4
  have v0 := hv.bal.1
  have HE := Lib.hid hE
  have HK := Lib.hid hK
  have HW := Lib.hid hv.2
  obtain ⟨cs, hcs⟩ : ∃ q, c v.st = q := ⟨_, rfl⟩
  rw [hcs] at hc0 hc1 ⊢
  have HCS := Lib.hid hcs
  obtain ⟨n0, hn0⟩ : ∃ n, w.heap.size = n := ⟨_, rfl⟩
  have hnb : ¬ n0 = b := by rw [← hn0]; exact hne
  clear hne
  clear h hE hK hv hl hcs
  refine callsB_of_wp Try.func34 rfl ?_
  simp only [Try.ntmps34, List.size_toArray, List.length_cons, List.length_nil, Nat.reduceAdd, Nat.reduceSub, Array.replicate_succ, Array.replicate_zero, List.push_toArray, List.append_toArray, List.nil_append, List.cons_append]
  go_wp2
  generalize w.alloc (.cells (cellsV v) 29) = W at *
  rw [hn0] at *
  refine wp_region_quiet_tail 9 (by kernel_rfl) (by kernel_rfl) ?_
  simp only [List.take_succ_cons, List.take_zero, List.drop_succ_cons, List.drop_zero]
  repeat (go_big_quiet_step (fail))
  refine wpQuiet_nil ?_
  intro _ hw'
  obtain ⟨n1, hw''⟩ := hw'
  subst hw''
  go_wp2_with fail
  refine (HL.out _).mono ?_
  rintro e w2 ⟨rfl, rfl⟩
  go_wp2_with fail
  refine wp_region_quiet_tail 9 (by kernel_rfl) (by kernel_rfl) ?_
  simp only [List.take_succ_cons, List.take_zero, List.drop_succ_cons, List.drop_zero]
  repeat (go_big_quiet_step (fail))
  refine wpQuiet_nil ?_
  intro _ hw'
  obtain ⟨n2, hw''⟩ := hw'
  subst hw''
  go_wp2_with fail
  have HR := Lib.hid ((((HB.out.drewN n1).total (T - v.bal)).drewN n2).active (A - v.bal))
  have HK2 : Hid (Kept (fun i => i = b ∨ i = m) w ((((W.drewN n1).setCell ⟨b, 4, none⟩ (.int .u64 (T - v.bal))).drewN n2).setCell ⟨b, 3, none⟩ (.int .u64 (A - v.bal)))) := Lib.hid ((((HK.out.drewN n1).setCell (.inl (.inl rfl)) _).drewN n2).setCell (.inl (.inl rfl)) _)
  have y1 : ((((W.drewN n1).setCell ⟨b, 4, none⟩ (.int .u64 (T - v.bal))).drewN n2).setCell ⟨b, 3, none⟩ (.int .u64 (A - v.bal))).cell? ⟨n0, 1, none⟩ = some (.int .i64 v.st) := (Blk.far (Blk.drewN (Blk.far (Blk.drewN HE.out n1) hnb _) n2) hnb _).cell 1
  generalize (((W.drewN n1).setCell ⟨b, 4, none⟩ (.int .u64 (T - v.bal))).drewN n2).setCell ⟨b, 3, none⟩ (.int .u64 (A - v.bal)) = W2 at *
  clear x0 x1 c2 c3 c4 f3 f4 HB HK HE W
  obtain ⟨-, -, c2, -, -⟩ := HR.out.cells
  refine wp_region_quiet_tail 8 (by kernel_rfl) (by kernel_rfl) ?_
  simp only [List.take_succ_cons, List.take_zero, List.drop_succ_cons, List.drop_zero]
  iterate 6 (go_big_quiet_step (fail))
  refine q_count _ _ rfl rfl (fun w h => by obtain ⟨n, rfl⟩ := h; exact HR.out.2.drewN n) Try.underlying3 Try.underlying54 zero_int v.st rfl rfl HW.out ?_
  rw [HCS.out]
  simp only [Act.put, List.setIfInBounds_toArray, List.set_cons_zero, List.set_cons_succ]
  repeat (go_big_quiet_step (fail))
  refine wpQuiet_nil ?_
  intro _ hw'
  obtain ⟨n3, hw''⟩ := hw'
  subst hw''
  refine wpList_count rfl _ _ _ rfl (HR.out.2.drewN n3) Try.underlying3 Try.underlying54 v.st (cs - 1) rfl rfl rfl HW.out ?_
  intro W3 hc3 hg3
  have HZ := Lib.hid (And.intro ((HR.out.drewN n3).counted hc3 hg3) ((HK2.out.drewN n3).trans (Kept.of_grown (S := fun i => i = m) hg3 (fun i hi => by injection hi)) (fun i _ e => .inr e)))
  have c23 := (c2 : W2.cell? ⟨b, 2, none⟩ = _)
  have z1 : W3.cell? ⟨n0, 1, none⟩ = some (.int .i64 v.st) := (World.cell?_of_block (w := W2) (a := ⟨n0, 1, none⟩) (hg3.block n0 (cell_lt y1) (by intro e; injection e with e; subst e; obtain ⟨es, clock, hm, _⟩ := HR.out.2; simp [World.cell?, hm] at y1))).trans y1
  have HC3 := Lib.hid hc3
  clear hc3 hg3 y1 c2 c23
  have d2 := HZ.out.1.cells.2.2.1
  have hsame : upd c v.st (cs - 1) v.st = cs - 1 := by simp [upd]
  have HS := Lib.hid hsame
  clear hsame
  go_wp2
  simp only [Act.put]
  refine wp_region_class (fun w' => ∃ n, w' = W3.drewN n) (by kernel_rfl) (by kernel_rfl) ⟨1, rfl⟩ ?_
  iterate 6 (go_big_quiet_step (fail))
  refine q_count _ _ rfl rfl (fun w h => by obtain ⟨n, rfl⟩ := h; exact HC3.out.drewN n) Try.underlying3 Try.underlying54 zero_int v.st rfl rfl HW.out ?_
  rw [HS.out]
  simp only [Act.put, List.setIfInBounds_toArray, List.set_cons_zero, List.set_cons_succ]
  repeat (go_big_quiet_step (fail))
  refine wpQuiet_nil ?_
  intro _ hw'
  obtain ⟨n4, hw''⟩ := hw'
  subst hw''
  by_cases hz : ((cs - 1 : Int) == 0) = true
  · go_wp2_with fail
    refine wp_region_quiet_tail 6 (by kernel_rfl) (by kernel_rfl) ?_
    simp only [List.take_succ_cons, List.take_zero, List.drop_succ_cons, List.drop_zero]
    repeat (go_big_quiet_step (fail))
    refine wpQuiet_nil ?_
    intro _ hw'
    obtain ⟨n5, hw''⟩ := hw'
    subst hw''
    refine wpList_uncount rfl _ _ rfl ((HC3.out.drewN n4).drewN n5) Try.underlying3 Try.underlying54 v.st rfl rfl HW.out (by rw [HS.out]; simpa using hz) ?_
    intro W4 hc4 hg4
    have HY := Lib.hid (And.intro (RegB.counted ((HZ.out.1.drewN n4).drewN n5) hc4 hg4) (((HZ.out.2.drewN n4).drewN n5).trans (Kept.of_grown (S := fun i => i = m) hg4 (fun i hi => by injection hi)) (fun i _ e => .inr e)))
    clear hc4 hg4
    go_wp2
    go_end0
    exact ⟨rfl, HY.out⟩
  · have hz : ((cs - 1 : Int) == 0) = false := by simpa using hz
    go_wp2_with fail
    go_end0
    exact ⟨rfl, HZ.out.1.drewN n4, HZ.out.2.drewN n4⟩
set_option maxHeartbeats 800000 in
theorem exclude_not (b m cap : Nat) (s : Value) (c : Int → Int) (A T : Int) (v : Val) (w : World) (h : RegB w b m s cap c A T) (hv : FitsV v) (hl : liveB v.st = false)
    (hT0 : v.bal ≤ T) (hT : T ≤ 18446744073709551615) (hc0 : 1 ≤ c v.st) (hc1 : c v.st ≤ 4096) :
    CallsB Try.prog 34 #[.pointer (some ⟨b, 0, none⟩), .agg (cellsV v)] w fun e w' => e = .returned (.tuple #[]) ∧ RegB w' b m s cap (upd c v.st (c v.st - 1)) A (T - v.bal) ∧ Kept (fun i => i = b ∨ i = m) w w' := by
  have HL : Hid (∀ w, Calls Try.prog 37 #[.int .i64 v.st] w fun e w' => e = .returned (.bool false) ∧ w = w') := Lib.hid (fun w => by have := live_any v.st w; rwa [hl] at this)
  have hK : Kept (fun i => i = b ∨ i = m) w (w.alloc (.cells (cellsV v) 29)) := (Kept.refl _ w).alloc _
  have hE : Blk (w.alloc (.cells (cellsV v) 29)) w.heap.size 29 (cellsV v) := Blk.new _ _ _
  have hne : ¬ w.heap.size = b := by have := h.1.lt; omega
  have HB := Lib.hid (h.alloc (.cells (cellsV v) 29))
  have x0 : (w.alloc (.cells (cellsV v) 29)).cell? ⟨w.heap.size, 0, none⟩ = some (.int .u64 v.bal) := hE.cell 0
  have x1 : (w.alloc (.cells (cellsV v) 29)).cell? ⟨w.heap.size, 1, none⟩ = some (.int .i64 v.st) := hE.cell 1
  obtain ⟨-, -, c2, c3, c4⟩ := HB.out.cells
  have f3 := HB.out.1.frozen 3
  have f4 := HB.out.1.frozen 4
  have v0 := hv.bal.1
  have HE := Lib.hid hE
  have HK := Lib.hid hK
  have HW := Lib.hid hv.2
  obtain ⟨cs, hcs⟩ : ∃ q, c v.st = q := ⟨_, rfl⟩
  rw [hcs] at hc0 hc1 ⊢
  have HCS := Lib.hid hcs
  obtain ⟨n0, hn0⟩ : ∃ n, w.heap.size = n := ⟨_, rfl⟩
  have hnb : ¬ n0 = b := by rw [← hn0]; exact hne
  clear hne
  clear h hE hK hv hl hcs
  refine callsB_of_wp Try.func34 rfl ?_
  simp only [Try.ntmps34, List.size_toArray, List.length_cons, List.length_nil, Nat.reduceAdd, Nat.reduceSub, Array.replicate_succ, Array.replicate_zero, List.push_toArray, List.append_toArray, List.nil_append, List.cons_append]
  go_wp2
  generalize w.alloc (.cells (cellsV v) 29) = W at *
  rw [hn0] at *
  refine wp_region_quiet_tail 9 (by kernel_rfl) (by kernel_rfl) ?_
  simp only [List.take_succ_cons, List.take_zero, List.drop_succ_cons, List.drop_zero]
  repeat (go_big_quiet_step (fail))
  refine wpQuiet_nil ?_
  intro _ hw'
  obtain ⟨n1, hw''⟩ := hw'
  subst hw''
  go_wp2_with fail
  refine (HL.out _).mono ?_
  rintro e w2 ⟨rfl, rfl⟩
  go_wp2_with fail
  have HR := Lib.hid ((HB.out.drewN n1).total (T - v.bal))
  have HK2 : Hid (Kept (fun i => i = b ∨ i = m) w ((W.drewN n1).setCell ⟨b, 4, none⟩ (.int .u64 (T - v.bal)))) := Lib.hid ((HK.out.drewN n1).setCell (.inl (.inl rfl)) _)
  have y1 : ((W.drewN n1).setCell ⟨b, 4, none⟩ (.int .u64 (T - v.bal))).cell? ⟨n0, 1, none⟩ = some (.int .i64 v.st) := (Blk.far (Blk.drewN HE.out n1) hnb _).cell 1
  generalize (W.drewN n1).setCell ⟨b, 4, none⟩ (.int .u64 (T - v.bal)) = W2 at *
  clear x0 x1 c2 c3 c4 f3 f4 HB HK HE W
  obtain ⟨-, -, c2, -, -⟩ := HR.out.cells
  refine wp_region_quiet_tail 8 (by kernel_rfl) (by kernel_rfl) ?_
  simp only [List.take_succ_cons, List.take_zero, List.drop_succ_cons, List.drop_zero]
  iterate 6 (go_big_quiet_step (fail))
  refine q_count _ _ rfl rfl (fun w h => by obtain ⟨n, rfl⟩ := h; exact HR.out.2.drewN n) Try.underlying3 Try.underlying54 zero_int v.st rfl rfl HW.out ?_
  rw [HCS.out]
  simp only [Act.put, List.setIfInBounds_toArray, List.set_cons_zero, List.set_cons_succ]
  repeat (go_big_quiet_step (fail))
  refine wpQuiet_nil ?_
  intro _ hw'
  obtain ⟨n3, hw''⟩ := hw'
  subst hw''
  refine wpList_count rfl _ _ _ rfl (HR.out.2.drewN n3) Try.underlying3 Try.underlying54 v.st (cs - 1) rfl rfl rfl HW.out ?_
  intro W3 hc3 hg3
  have HZ := Lib.hid (And.intro ((HR.out.drewN n3).counted hc3 hg3) ((HK2.out.drewN n3).trans (Kept.of_grown (S := fun i => i = m) hg3 (fun i hi => by injection hi)) (fun i _ e => .inr e)))
  have c23 := (c2 : W2.cell? ⟨b, 2, none⟩ = _)
  have z1 : W3.cell? ⟨n0, 1, none⟩ = some (.int .i64 v.st) := (World.cell?_of_block (w := W2) (a := ⟨n0, 1, none⟩) (hg3.block n0 (cell_lt y1) (by intro e; injection e with e; subst e; obtain ⟨es, clock, hm, _⟩ := HR.out.2; simp [World.cell?, hm] at y1))).trans y1
  have HC3 := Lib.hid hc3
  clear hc3 hg3 y1 c2 c23
  have d2 := HZ.out.1.cells.2.2.1
  have hsame : upd c v.st (cs - 1) v.st = cs - 1 := by simp [upd]
  have HS := Lib.hid hsame
  clear hsame
  go_wp2
  simp only [Act.put]
  refine wp_region_class (fun w' => ∃ n, w' = W3.drewN n) (by kernel_rfl) (by kernel_rfl) ⟨1, rfl⟩ ?_
  iterate 6 (go_big_quiet_step (fail))
  refine q_count _ _ rfl rfl (fun w h => by obtain ⟨n, rfl⟩ := h; exact HC3.out.drewN n) Try.underlying3 Try.underlying54 zero_int v.st rfl rfl HW.out ?_
  rw [HS.out]
  simp only [Act.put, List.setIfInBounds_toArray, List.set_cons_zero, List.set_cons_succ]
  repeat (go_big_quiet_step (fail))
  refine wpQuiet_nil ?_
  intro _ hw'
  obtain ⟨n4, hw''⟩ := hw'
  subst hw''
  by_cases hz : ((cs - 1 : Int) == 0) = true
  · go_wp2_with fail
    refine wp_region_quiet_tail 6 (by kernel_rfl) (by kernel_rfl) ?_
    simp only [List.take_succ_cons, List.take_zero, List.drop_succ_cons, List.drop_zero]
    repeat (go_big_quiet_step (fail))
    refine wpQuiet_nil ?_
    intro _ hw'
    obtain ⟨n5, hw''⟩ := hw'
    subst hw''
    refine wpList_uncount rfl _ _ rfl ((HC3.out.drewN n4).drewN n5) Try.underlying3 Try.underlying54 v.st rfl rfl HW.out (by rw [HS.out]; simpa using hz) ?_
    intro W4 hc4 hg4
    have HY := Lib.hid (And.intro (RegB.counted ((HZ.out.1.drewN n4).drewN n5) hc4 hg4) (((HZ.out.2.drewN n4).drewN n5).trans (Kept.of_grown (S := fun i => i = m) hg4 (fun i hi => by injection hi)) (fun i _ e => .inr e)))
    clear hc4 hg4
    go_wp2
    go_end0
    exact ⟨rfl, HY.out⟩
  · have hz : ((cs - 1 : Int) == 0) = false := by simpa using hz
    go_wp2_with fail
    go_end0
    exact ⟨rfl, HZ.out.1.drewN n4, HZ.out.2.drewN n4⟩
/-- exclude, whatever the status. -/
theorem exclude_any (b m cap : Nat) (s : Value) (c : Int → Int) (A T : Int) (v : Val) (w : World) (h : RegB w b m s cap c A T) (hv : FitsV v)
    (hA0 : liveBal v ≤ A) (hA : A ≤ T) (hT0 : v.bal ≤ T) (hT : T ≤ 18446744073709551615) (hc0 : 1 ≤ c v.st) (hc1 : c v.st ≤ 4096) :
    CallsB Try.prog 34 #[.pointer (some ⟨b, 0, none⟩), .agg (cellsV v)] w fun e w' => e = .returned (.tuple #[]) ∧ RegB w' b m s cap (upd c v.st (c v.st - 1)) (A - liveBal v) (T - v.bal) ∧ Kept (fun i => i = b ∨ i = m) w w' := by
  have v0 := hv.bal.1
  cases hl : liveB v.st with
  | true =>
    have e : liveBal v = v.bal := by simp [liveBal, hl]
    rw [e] at hA0 ⊢
    exact exclude_yes b m cap s c A T v w h hv hl hA0 (by omega) hT0 hT hc0 hc1
  | false =>
    have e : A - liveBal v = A := by simp [liveBal, hl]
    rw [e]
    exact exclude_not b m cap s c A T v w h hv hl hT0 hT hc0 hc1
end Go.Proofs.Ytcmlkcmoailhjaa
