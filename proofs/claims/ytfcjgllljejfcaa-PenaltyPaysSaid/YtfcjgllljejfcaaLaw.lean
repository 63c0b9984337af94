/- Words of the law walks: a law's two boxes; results; what the codes say (written by mklaws.py). -/
import Derived.Test.YtfcjgllljejfcaaLive
import Derived.Test.YtfcjgllljejfcaaPay
namespace Go.Proofs.Ytfcjgllljejfcaa
open Go Go.RowKit
set_option linter.unusedVariables false
set_option linter.unusedSimpArgs false
set_option maxRecDepth 100000

/-- The next operation is a load of this type (looked at before anything heavy). -/
theorem isload {P : Program} {ops : Array Oper} {Q : Exit → Act → World → Prop} {a : Act} {w : World} {rest : List Oper} {o : Oper} (ty : TypeId) (x : Operand) (ho : o.op = .load ty x) (h : wpList P ops Q (o :: rest) a w) : wpList P ops Q (o :: rest) a w := h
/-- A whole row is read, under a guard or not: the type is looked at first. -/
theorem wpList_load_rowH {P : Program} {ops : Array Oper} {Q : Exit → Act → World → Prop} {a : Act} {w : World} {rest : List Oper} {o : Oper} (ty : TypeId) (x : Operand) (ho : o.op = .load ty x)
    (g : Nat) (hx : a.eval x = .pointer (some ⟨g, 0, none⟩)) (hw : Region.wanted o (yielded ops a.tmps) = true) (t : TypeId) (cs : Array Value) (fr : Nat × Nat) (d : TypeDesc) (hg : w.heap[g]? = some (.cells cs t fr))
    (hu : P.underlying ty = some d) (hd : (match d with | .struct _ | .array _ _ => true | _ => false) = true) (hi : (P.info? ty).map (·.size) = some cs.size)
    (h : wpList P ops Q rest (a.put o.dst (.agg cs)) w) : wpList P ops Q (o :: rest) a w :=
  wpList_load_rowG hw ty x ho g hx t cs fr d hg hu hd hi h
/-- The law's boxes: the validator's and the configuration's. -/
def Two (w W : World) (v : Val) (c : Nat → Int) : Prop := VB W w.heap.size v ∧ Blk W (w.heap.size + 1) 30 (cellsOf c) ∧ Below w.heap.size w W
theorem Two.next {w W W' : World} {v : Val} {c : Nat → Int} (h : Two w W v c) (hb : Below W.heap.size W W') : Two w W' v c :=
  ⟨old_vb h.1 hb, h.2.1.below hb h.2.1.lt, h.2.2.trans (hb.mono h.2.2.size)⟩
theorem Two.new (w : World) (v : Val) (c : Nat → Int) : Two w ((w.alloc (.cells (cellsV v) 28)).alloc (.cells (cellsOf c) 30)) v c :=
  ⟨Blk.alloc (Blk.new w _ _) _, cfg_two _ _ _, ((Below.refl _ _).alloc (Nat.le_refl _) _).alloc (by simp) _⟩
theorem below_put {W W' : World} (h : Below W.heap.size W W') (o : Obj) : Below W.heap.size W (W'.alloc o) := h.alloc h.size _
theorem runE_bal : ∀ (es : List Eff) (x : Val), (∀ e ∈ es, ∀ x, (e x).2.bal = x.bal) → (runE es x).1 = 0 → (runE es x).2.bal = x.bal
  | [], x, _, _ => rfl
  | e :: es, x, h, h0 => by
    unfold runE at h0 ⊢
    split at h0
    · rename_i hc
      rw [if_pos hc, runE_bal es _ (fun e he => h e (by simp [he])) h0]
      exact h e (by simp) x
    · rename_i hc
      exact absurd h0 hc
theorem slash_bal {v : Val} (e : Int) (c : Nat → Int) (h : (slR v e c).1 = 0) : (slR v e c).2.bal + slN v e c = v.bal := by
  have k := runE_bal (slashL v e (c 11)) { v with bal := v.bal - penQ v c } (fun f hf x => by
    have hm : ∀ x, (markE x).2.bal = x.bal := fun x => by unfold markE; split <;> rfl
    have hp : ∀ x, (passE 7 x).2.bal = x.bal := fun x => by unfold passE; split <;> rfl
    have hh : ∀ x, (holdE e (c 11) x).2.bal = x.bal := fun x => by unfold holdE; split <;> rfl
    have hr : ∀ x, (requestE e x).2.bal = x.bal := fun x => by unfold requestE; split <;> rfl
    unfold slashL at hf
    split at hf
    · simp only [List.mem_cons, List.not_mem_nil, or_false] at hf
      rcases hf with rfl | rfl | rfl | rfl
      · exact hm x
      · exact hp x
      · exact hh x
      · exact hr x
    · simp only [List.mem_cons, List.not_mem_nil, or_false] at hf
      rcases hf with rfl | rfl | rfl
      · exact hm x
      · exact hp x
      · exact hh x) h
  unfold slN slR at *
  rw [if_pos h, k]
  simp only
  omega
theorem slash_sl {v : Val} {e n : Int} {x : Val} (hx : x.bal = x.bal) (h : (runE (slashL v e n) v).1 = 0) : (runE (slashL v e n) v).2.sl = true := by
  by_cases h1 : v.sl = true
  · rw [sl_yes h1] at h; simp at h
  · have h1 : v.sl = false := by simpa using h1
    by_cases h2 : refN v.st 7 = 0
    · rw [sl_bad h1 h2] at h; simp at h
    · by_cases h3 : lOk e n
      · rw [sl_ok h1 h2 h3]; rfl
      · rw [sl_out h1 h2 h3] at h; simp at h
theorem slash_fits {v : Val} {e : Int} {c : Nat → Int} (hv : FitsV v) (h : (slR v e c).1 = 0) : FitsV (slR v e c).2 := by
  have hb := slash_bal e c h
  obtain ⟨p0, p1⟩ := pen_bound c hv
  have hbv := hv.bal
  have hn : slN v e c = penQ v c := by unfold slN; rw [if_pos h]
  have hwf : ∀ x : Int, 0 ≤ x → x ≤ 18446744073709551615 → (Lit.int .u64 x).wf = true := fun x h0 h1 => by
    simp [Lit.wf, IntKind.min, IntKind.max, IntKind.signed, IntKind.bits]; omega
  refine ⟨hwf _ (by omega) (by omega), ?_⟩
  unfold slR at *
  rw [show slashL v e (c 11) = slashL { v with bal := v.bal - penQ v c } e (c 11) from rfl] at h ⊢
  by_cases h1 : v.sl = true
  · rw [sl_yes (v := { v with bal := v.bal - penQ v c }) h1] at h; simp at h
  · have h1 : v.sl = false := by simpa using h1
    by_cases h2 : refN v.st 7 = 0
    · rw [sl_bad (v := { v with bal := v.bal - penQ v c }) h1 h2] at h; simp at h
    · by_cases h3 : lOk e (c 11)
      · rw [sl_ok (v := { v with bal := v.bal - penQ v c }) h1 h2 h3]
        exact refN_wf v.st 7
      · rw [sl_out (v := { v with bal := v.bal - penQ v c }) h1 h2 h3] at h; simp at h
/-- A second slashing. -/
theorem slash_again {v : Val} (e : Int) (c : Nat → Int) (h : (slR v e c).1 = 0) : (slR (slR v e c).2 e c).1 = 9 := by
  have hs : (slR v e c).2.sl = true := slash_sl (v := { v with bal := v.bal - penQ v c }) (x := v) rfl h
  generalize (slR v e c).2 = y at *
  unfold slR
  rw [show slashL y e (c 11) = slashL { y with bal := y.bal - penQ y c } e (c 11) from rfl, sl_yes (v := { y with bal := y.bal - penQ y c }) hs]
theorem accept_again {v : Val} (e : Int) (h : (runE [requestE e, passE 2] v).1 = 0) : (runE [requestE e, passE 2] (runE [requestE e, passE 2] v).2).1 = 8 ∧ StOk (runE [requestE e, passE 2] v).2 := by
  by_cases h1 : inE e
  · by_cases h2 : refN v.st 2 = 0
    · rw [acc_bad h1 h2] at h; simp at h
    · rw [acc_ok h1 h2]
      have h3 : refN v.st 2 = 3 := by
        unfold refN at h2 ⊢
        repeat' split at h2
        all_goals first | omega | (exact absurd rfl h2)
      refine ⟨?_, refN_wf v.st 2⟩
      rw [acc_bad h1 (by rw [h3]; rfl)]
  · rw [acc_out h1] at h; simp at h
theorem assign_again {v : Val} (e n : Int) (hv : StOk v) (h : (runE [scheduleE e, holdE e n] v).1 = 0) : (runE [scheduleE e, holdE e n] (runE [scheduleE e, holdE e n] v).2).1 = 8 ∧ StOk (runE [scheduleE e, holdE e n] v).2 := by
  by_cases h1 : v.st = 3 ∧ v.ex = -1
  · by_cases h2 : lOk e n
    · rw [asg_ok h1 h2]
      refine ⟨?_, hv⟩
      rw [asg_bad]
      have := h2.1.1
      simp only
      omega
    · rw [asg_out h1 h2] at h; simp at h
  · rw [asg_bad h1] at h; simp at h
theorem settle_ok {v : Val} {e : Int} (h : v.st = 5) (h1 : v.wd ≤ e) : settleV [ripeE e, passE 5] v.bal v = .tuple #[.agg (cellsV { v with bal := 0, st := 6 }), .int .u64 v.bal, .int .i64 0] := by
  unfold settleV
  rw [pay_ok (v := { v with bal := v.bal - v.bal }) h (by simp only; omega), Int.sub_self]
  rfl
theorem settle_bad {v : Val} {e : Int} (h : ¬ (v.st = 5 ∧ v.wd ≤ e)) : settleV [ripeE e, passE 5] v.bal v = .tuple #[.agg (cellsV val0), .int .u64 0, .int .i64 8] := by
  unfold settleV
  rw [pay_bad (v := { v with bal := v.bal - v.bal }) h]
  rfl
/-- The contracts with their answers written out. -/
theorem accept_lit (v : Val) (e : Int) (hv : StOk v) (w : World) : Calls Try.prog 13 #[.agg (cellsV v), .int .i64 e] w fun o w' => o = .returned (.tuple #[.agg (cellsV (runE [requestE e, passE 2] v).2), .int .i64 (runE [requestE e, passE 2] v).1]) ∧ Below w.heap.size w w' := accept_any v e w hv
theorem refaccept_lit (v : Val) (e : Int) (hv : StOk v) (w : World) : Calls Try.prog 15 #[.agg (cellsV v), .int .i64 e] w fun o w' => o = .returned (.tuple #[.agg (cellsV (runE [requestE e, passE 2] v).2), .int .i64 (runE [requestE e, passE 2] v).1]) ∧ Below w.heap.size w w' := refaccept_any v e w hv
theorem assign_lit (v : Val) (e : Int) {c : Nat → Int} (hv : StOk v) (hc : GoodC c) (w : World) : Calls Try.prog 14 #[.agg (cellsV v), .int .i64 e, .agg (cellsOf c)] w fun o w' => o = .returned (.tuple #[.agg (cellsV (runE [scheduleE e, holdE e (c 10)] v).2), .int .i64 (runE [scheduleE e, holdE e (c 10)] v).1]) ∧ Below w.heap.size w w' := assign_any v e c w hv hc.ub0 hc.ub1
theorem refassign_lit (v : Val) (e : Int) {c : Nat → Int} (hc : GoodC c) (w : World) : Calls Try.prog 16 #[.agg (cellsV v), .int .i64 e, .agg (cellsOf c)] w fun o w' => o = .returned (.tuple #[.agg (cellsV (runE [scheduleE e, holdE e (c 10)] v).2), .int .i64 (runE [scheduleE e, holdE e (c 10)] v).1]) ∧ Below w.heap.size w w' := refassign_any v e c w hc.ub0 hc.ub1
theorem slash_lit {v : Val} (e : Int) {c : Nat → Int} (hv : FitsV v) (hc : GoodC c) (w : World) : Calls Try.prog 17 #[.agg (cellsV v), .int .i64 e, .agg (cellsOf c)] w fun o w' => o = .returned (.tuple #[.agg (cellsV (slR v e c).2), .int .u64 (slN v e c), .int .i64 (slR v e c).1]) ∧ Below w.heap.size w w' := slash_any e w hv hc
theorem refslash_lit {v : Val} (e : Int) {c : Nat → Int} (hv : FitsV v) (hc : GoodC c) (w : World) : Calls Try.prog 18 #[.agg (cellsV v), .int .i64 e, .agg (cellsOf c)] w fun o w' => o = .returned (.tuple #[.agg (cellsV (slR v e c).2), .int .u64 (slN v e c), .int .i64 (slR v e c).1]) ∧ Below w.heap.size w w' := refslash_good e w hv hc
theorem pay_lit {v : Val} (e : Int) (hv : FitsV v) (w : World) : Calls Try.prog 19 #[.agg (cellsV v), .int .i64 e] w fun o w' => o = .returned (settleV [ripeE e, passE 5] v.bal v) ∧ Below w.heap.size w w' := pay_any v e w hv.2 hv.bal.1 hv.bal.2
end Go.Proofs.Ytfcjgllljejfcaa
