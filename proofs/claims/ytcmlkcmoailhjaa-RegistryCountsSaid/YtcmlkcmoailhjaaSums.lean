/- include: a validator goes into the sums. -/
import Derived.Test.YtcmlkcmoailhjaaBase
import Derived.Test.YtcmlkcmoailhjaaTail
import Derived.Test.YtcmlkcmoailhjaaFirst
import Derived.Defers
namespace Go.Proofs.Ytcmlkcmoailhjaa
open Go Go.RowKit Go.Deep
set_option linter.unusedVariables false

/-- A call, plain or deferred. -/
def CallsB (P : Program) (f : FuncId) (args : Array Value) (w : World) (R : Ending → World → Prop) : Prop :=
  Calls P f args w R ∧ ∀ u, CallsD P f args u w fun e u' w' => u' = u ∧ R e w'
theorem callsB_of_wp {P : Program} {f : FuncId} {fn : Func} {c : Code} {args : Array Value} {w : World} {R : Ending → World → Prop} (hf : P.funcs[f]? = some fn) (hb : fn.body = some c)
    (h : c.wp P (bodyPost P fn R) { tmps := args ++ Array.replicate (fn.ntmps - args.size) undef, defers := [] } w) : CallsB P f args w R :=
  ⟨calls_of_wp hf hb h, fun _ => callsD_of_wp hf hb h⟩
theorem CallsB.mono {P : Program} {f : FuncId} {args : Array Value} {w : World} {R R' : Ending → World → Prop} (h : CallsB P f args w R) (hr : ∀ e w', R e w' → R' e w') : CallsB P f args w R' :=
  ⟨h.1.mono hr, fun u => (h.2 u).mono fun e u' w' ⟨h1, h2⟩ => ⟨h1, hr e w' h2⟩⟩

section
variable {w w' : World} {b m cap : Nat} {s : Value} {c : Int → Int} {A T : Int}
theorem RegB.alloc (h : RegB w b m s cap c A T) (o : Obj) : RegB (w.alloc o) b m s cap c A T := ⟨h.1.alloc o, h.2.alloc o⟩
theorem RegB.drewN (h : RegB w b m s cap c A T) (n : Nat) : RegB (w.drewN n) b m s cap c A T := h
theorem RegB.total (h : RegB w b m s cap c A T) (x : Int) : RegB (w.setCell ⟨b, 4, none⟩ (.int .u64 x)) b m s cap c A x := ⟨h.1.set_ 4 _, h.2.setCell (fun e => h.ne e.symm) _⟩
theorem RegB.active (h : RegB w b m s cap c A T) (x : Int) : RegB (w.setCell ⟨b, 3, none⟩ (.int .u64 x)) b m s cap c x T := ⟨h.1.set_ 3 _, h.2.setCell (fun e => h.ne e.symm) _⟩
theorem RegB.list (h : RegB w b m s cap c A T) (x : Value) : RegB (w.setCell ⟨b, 1, none⟩ x) b m x cap c A T := ⟨h.1.set_ 1 _, h.2.setCell (fun e => h.ne e.symm) _⟩
theorem RegB.counted (h : RegB w b m s cap c A T) {c' : Int → Int} (hc : CntAt w' m c') (hg : w.grownBy w' (some m)) : RegB w' b m s cap c' A T := ⟨h.1.grown hg (fun e => h.ne (by injection e)), hc⟩
end

set_option maxHeartbeats 800000 in
theorem include_yes (b m cap : Nat) (s : Value) (c : Int → Int) (A T : Int) (v : Val) (w : World) (h : RegB w b m s cap c A T) (hv : FitsV v) (hl : liveB v.st = true)
    (hA0 : 0 ≤ A) (hA : A + v.bal ≤ 18446744073709551615) (hT0 : 0 ≤ T) (hT : T + v.bal ≤ 18446744073709551615) (hc0 : 0 ≤ c v.st) (hc1 : c v.st ≤ 4096) :
    CallsB Try.prog 32 #[.pointer (some ⟨b, 0, none⟩), .agg (cellsV v)] w fun e w' => e = .returned (.tuple #[]) ∧ RegB w' b m s cap (upd c v.st (c v.st + 1)) (A + v.bal) (T + v.bal) ∧ Kept (fun i => i = b ∨ i = m) w w' := by
  have HL : Hid (∀ w, Calls Try.prog 37 #[.int .i64 v.st] w fun e w' => e = .returned (.bool true) ∧ w = w') := Lib.hid (fun w => by have := live_any v.st w; rwa [hl] at this)
  have hK : Kept (fun i => i = b ∨ i = m) w (w.alloc (.cells (cellsV v) 29)) := (Kept.refl _ w).alloc _
  have hE : Blk (w.alloc (.cells (cellsV v) 29)) w.heap.size 29 (cellsV v) := Blk.new _ _ _
  have hne : ¬ w.heap.size = b := by have := h.1.lt; omega
  have HB := Lib.hid (h.alloc (.cells (cellsV v) 29))
  have x0 : (w.alloc (.cells (cellsV v) 29)).cell? ⟨w.heap.size, 0, none⟩ = some (.int .u64 v.bal) := hE.cell 0
  have x1 : (w.alloc (.cells (cellsV v) 29)).cell? ⟨w.heap.size, 1, none⟩ = some (.int .i64 v.st) := hE.cell 1
  obtain ⟨-, -, c2, c3, c4⟩ := HB.out.cells
  have f3 := HB.out.1.frozen 3
  have f4 := HB.out.1.frozen 4
  have v0 := hv.bal.1
  have HE := Lib.hid hE
  have HK := Lib.hid hK
  have HW := Lib.hid hv.2
  obtain ⟨cs, hcs⟩ : ∃ q, c v.st = q := ⟨_, rfl⟩
  rw [hcs] at hc0 hc1 ⊢
  have HCS := Lib.hid hcs
  obtain ⟨n0, hn0⟩ : ∃ n, w.heap.size = n := ⟨_, rfl⟩
  have hnb : ¬ n0 = b := by rw [← hn0]; exact hne
  clear hne
  clear h hE hK hv hl hcs
  refine callsB_of_wp Try.func32 rfl ?_
  simp only [Try.ntmps32, List.size_toArray, List.length_cons, List.length_nil, Nat.reduceAdd, Nat.reduceSub, Array.replicate_succ, Array.replicate_zero, List.push_toArray, List.append_toArray, List.nil_append, List.cons_append]
  go_wp2
  generalize w.alloc (.cells (cellsV v) 29) = W at *
  rw [hn0] at *
  refine wp_region_quiet_tail 9 (by kernel_rfl) (by kernel_rfl) ?_
  simp only [List.take_succ_cons, List.take_zero, List.drop_succ_cons, List.drop_zero]
  repeat (go_big_quiet_step (fail))
  refine wpQuiet_nil ?_
  intro _ hw'
  obtain ⟨n1, hw''⟩ := hw'
  subst hw''
  go_wp2_with fail
  refine (HL.out _).mono ?_
  rintro e w2 ⟨rfl, rfl⟩
  go_wp2_with fail
  refine wp_region_quiet_tail 9 (by kernel_rfl) (by kernel_rfl) ?_
  simp only [List.take_succ_cons, List.take_zero, List.drop_succ_cons, List.drop_zero]
  repeat (go_big_quiet_step (fail))
  refine wpQuiet_nil ?_
  intro _ hw'
  obtain ⟨n2, hw''⟩ := hw'
  subst hw''
  go_wp2_with fail
  have HR := Lib.hid ((((HB.out.drewN n1).total (T + v.bal)).drewN n2).active (A + v.bal))
  have HK2 : Hid (Kept (fun i => i = b ∨ i = m) w ((((W.drewN n1).setCell ⟨b, 4, none⟩ (.int .u64 (T + v.bal))).drewN n2).setCell ⟨b, 3, none⟩ (.int .u64 (A + v.bal)))) := Lib.hid ((((HK.out.drewN n1).setCell (.inl (.inl rfl)) _).drewN n2).setCell (.inl (.inl rfl)) _)
  have y1 : ((((W.drewN n1).setCell ⟨b, 4, none⟩ (.int .u64 (T + v.bal))).drewN n2).setCell ⟨b, 3, none⟩ (.int .u64 (A + v.bal))).cell? ⟨n0, 1, none⟩ = some (.int .i64 v.st) := (Blk.far (Blk.drewN (Blk.far (Blk.drewN HE.out n1) hnb _) n2) hnb _).cell 1
  generalize (((W.drewN n1).setCell ⟨b, 4, none⟩ (.int .u64 (T + v.bal))).drewN n2).setCell ⟨b, 3, none⟩ (.int .u64 (A + v.bal)) = W2 at *
  clear x0 x1 c2 c3 c4 f3 f4 HB HK HE W
  obtain ⟨-, -, c2, -, -⟩ := HR.out.cells
  refine wp_region_quiet_tail 8 (by kernel_rfl) (by kernel_rfl) ?_
  simp only [List.take_succ_cons, List.take_zero, List.drop_succ_cons, List.drop_zero]
  iterate 6 (go_big_quiet_step (fail))
  refine q_count _ _ rfl rfl (fun w h => by obtain ⟨n, rfl⟩ := h; exact HR.out.2.drewN n) Try.underlying3 Try.underlying54 zero_int v.st rfl rfl HW.out ?_
  rw [HCS.out]
  simp only [Act.put, List.setIfInBounds_toArray, List.set_cons_zero, List.set_cons_succ]
  repeat (go_big_quiet_step (fail))
  refine wpQuiet_nil ?_
  intro _ hw'
  obtain ⟨n3, hw''⟩ := hw'
  subst hw''
  refine wpList_count rfl _ _ _ rfl (HR.out.2.drewN n3) Try.underlying3 Try.underlying54 v.st (cs + 1) rfl rfl rfl HW.out ?_
  intro W3 hc3 hg3
  have HZ := Lib.hid (And.intro ((HR.out.drewN n3).counted hc3 hg3) ((HK2.out.drewN n3).trans (Kept.of_grown (S := fun i => i = m) hg3 (fun i hi => by injection hi)) (fun i _ e => .inr e)))
  clear hc3 hg3
  go_wp2
  go_end0
  exact ⟨rfl, HZ.out⟩
set_option maxHeartbeats 800000 in
theorem include_not (b m cap : Nat) (s : Value) (c : Int → Int) (A T : Int) (v : Val) (w : World) (h : RegB w b m s cap c A T) (hv : FitsV v) (hl : liveB v.st = false)
    (hT0 : 0 ≤ T) (hT : T + v.bal ≤ 18446744073709551615) (hc0 : 0 ≤ c v.st) (hc1 : c v.st ≤ 4096) :
    CallsB Try.prog 32 #[.pointer (some ⟨b, 0, none⟩), .agg (cellsV v)] w fun e w' => e = .returned (.tuple #[]) ∧ RegB w' b m s cap (upd c v.st (c v.st + 1)) A (T + v.bal) ∧ Kept (fun i => i = b ∨ i = m) w w' := by
  have HL : Hid (∀ w, Calls Try.prog 37 #[.int .i64 v.st] w fun e w' => e = .returned (.bool false) ∧ w = w') := Lib.hid (fun w => by have := live_any v.st w; rwa [hl] at this)
  have hK : Kept (fun i => i = b ∨ i = m) w (w.alloc (.cells (cellsV v) 29)) := (Kept.refl _ w).alloc _
  have hE : Blk (w.alloc (.cells (cellsV v) 29)) w.heap.size 29 (cellsV v) := Blk.new _ _ _
  have hne : ¬ w.heap.size = b := by have := h.1.lt; omega
  have HB := Lib.hid (h.alloc (.cells (cellsV v) 29))
  have x0 : (w.alloc (.cells (cellsV v) 29)).cell? ⟨w.heap.size, 0, none⟩ = some (.int .u64 v.bal) := hE.cell 0
  have x1 : (w.alloc (.cells (cellsV v) 29)).cell? ⟨w.heap.size, 1, none⟩ = some (.int .i64 v.st) := hE.cell 1
  obtain ⟨-, -, c2, c3, c4⟩ := HB.out.cells
  have f3 := HB.out.1.frozen 3
  have f4 := HB.out.1.frozen 4
  have v0 := hv.bal.1
  have HE := Lib.hid hE
  have HK := Lib.hid hK
  have HW := Lib.hid hv.2
  obtain ⟨cs, hcs⟩ : ∃ q, c v.st = q := ⟨_, rfl⟩
  rw [hcs] at hc0 hc1 ⊢
  have HCS := Lib.hid hcs
  obtain ⟨n0, hn0⟩ : ∃ n, w.heap.size = n := ⟨_, rfl⟩
  have hnb : ¬ n0 = b := by rw [← hn0]; exact hne
  clear hne
  clear h hE hK hv hl hcs
  refine callsB_of_wp Try.func32 rfl ?_
  simp only [Try.ntmps32, List.size_toArray, List.length_cons, List.length_nil, Nat.reduceAdd, Nat.reduceSub, Array.replicate_succ, Array.replicate_zero, List.push_toArray, List.append_toArray, List.nil_append, List.cons_append]
  go_wp2
  generalize w.alloc (.cells (cellsV v) 29) = W at *
  rw [hn0] at *
  refine wp_region_quiet_tail 9 (by kernel_rfl) (by kernel_rfl) ?_
  simp only [List.take_succ_cons, List.take_zero, List.drop_succ_cons, List.drop_zero]
  repeat (go_big_quiet_step (fail))
  refine wpQuiet_nil ?_
  intro _ hw'
  obtain ⟨n1, hw''⟩ := hw'
  subst hw''
  go_wp2_with fail
  refine (HL.out _).mono ?_
  rintro e w2 ⟨rfl, rfl⟩
  go_wp2_with fail
  have HR := Lib.hid ((HB.out.drewN n1).total (T + v.bal))
  have HK2 : Hid (Kept (fun i => i = b ∨ i = m) w ((W.drewN n1).setCell ⟨b, 4, none⟩ (.int .u64 (T + v.bal)))) := Lib.hid ((HK.out.drewN n1).setCell (.inl (.inl rfl)) _)
  have y1 : ((W.drewN n1).setCell ⟨b, 4, none⟩ (.int .u64 (T + v.bal))).cell? ⟨n0, 1, none⟩ = some (.int .i64 v.st) := (Blk.far (Blk.drewN HE.out n1) hnb _).cell 1
  generalize (W.drewN n1).setCell ⟨b, 4, none⟩ (.int .u64 (T + v.bal)) = W2 at *
  clear x0 x1 c2 c3 c4 f3 f4 HB HK HE W
  obtain ⟨-, -, c2, -, -⟩ := HR.out.cells
  refine wp_region_quiet_tail 8 (by kernel_rfl) (by kernel_rfl) ?_
  simp only [List.take_succ_cons, List.take_zero, List.drop_succ_cons, List.drop_zero]
  iterate 6 (go_big_quiet_step (fail))
  refine q_count _ _ rfl rfl (fun w h => by obtain ⟨n, rfl⟩ := h; exact HR.out.2.drewN n) Try.underlying3 Try.underlying54 zero_int v.st rfl rfl HW.out ?_
  rw [HCS.out]
  simp only [Act.put, List.setIfInBounds_toArray, List.set_cons_zero, List.set_cons_succ]
  repeat (go_big_quiet_step (fail))
  refine wpQuiet_nil ?_
  intro _ hw'
  obtain ⟨n3, hw''⟩ := hw'
  subst hw''
  refine wpList_count rfl _ _ _ rfl (HR.out.2.drewN n3) Try.underlying3 Try.underlying54 v.st (cs + 1) rfl rfl rfl HW.out ?_
  intro W3 hc3 hg3
  have HZ := Lib.hid (And.intro ((HR.out.drewN n3).counted hc3 hg3) ((HK2.out.drewN n3).trans (Kept.of_grown (S := fun i => i = m) hg3 (fun i hi => by injection hi)) (fun i _ e => .inr e)))
  clear hc3 hg3
  go_wp2
  go_end0
  exact ⟨rfl, HZ.out⟩
/-- include, whatever the status. -/
theorem include_any (b m cap : Nat) (s : Value) (c : Int → Int) (A T : Int) (v : Val) (w : World) (h : RegB w b m s cap c A T) (hv : FitsV v)
    (hA0 : 0 ≤ A) (hA : A ≤ T) (hT : T + v.bal ≤ 18446744073709551615) (hc0 : 0 ≤ c v.st) (hc1 : c v.st ≤ 4096) :
    CallsB Try.prog 32 #[.pointer (some ⟨b, 0, none⟩), .agg (cellsV v)] w fun e w' => e = .returned (.tuple #[]) ∧ RegB w' b m s cap (upd c v.st (c v.st + 1)) (A + liveBal v) (T + v.bal) ∧ Kept (fun i => i = b ∨ i = m) w w' := by
  have v0 := hv.bal.1
  cases hl : liveB v.st with
  | true =>
    have e : liveBal v = v.bal := by simp [liveBal, hl]
    rw [e]
    exact include_yes b m cap s c A T v w h hv hl hA0 (by omega) (by omega) hT hc0 hc1
  | false =>
    have e : A + liveBal v = A := by simp [liveBal, hl]
    rw [e]
    exact include_not b m cap s c A T v w h hv hl (by omega) hT hc0 hc1
end Go.Proofs.Ytcmlkcmoailhjaa
