/- The table of the state machine: the map that holds just its ten entries; Next. -/
import Derived.Test.YtfcjgllljejfcaaTable
namespace Go.Proofs.Ytfcjgllljejfcaa
open Go Go.RowKit Go.Maps
set_option linter.unusedVariables false
set_option linter.unusedSimpArgs false

/-- The status after an event, or 0. -/
def refN (s e : Int) : Int :=
  if e = 7 then (if s = 2 ∨ s = 3 then 3 else if s = 4 ∨ s = 5 then 4 else 0)
  else if e = 6 ∧ s = 2 then 7 else if 1 ≤ e ∧ e ≤ 5 ∧ s = e then s + 1 else 0
def ki (s e : Int) : Value := .agg #[.int .i64 s, .int .i64 e]
def ents : List (Int × Int × Int) := [(1, 1, 2), (2, 2, 3), (3, 3, 4), (4, 4, 5), (5, 5, 6), (2, 6, 7), (2, 7, 3), (3, 7, 3), (4, 7, 4), (5, 7, 4)]
def entP (x : Int × Int × Int) : Value × Value := (ki x.1 x.2.1, .int .i64 x.2.2)
def ent (j : Nat) : Value × Value := entP (ents.getD j (0, 0, 0))
theorem ent_all : (List.range 10).map ent = ents.map entP := rfl
theorem refN_mem {s e : Int} (h : refN s e ≠ 0) : (s, e, refN s e) ∈ ents := by
  unfold refN at h ⊢
  by_cases h7 : e = 7
  · subst h7
    rw [if_pos rfl] at h ⊢
    by_cases a : s = 2 ∨ s = 3
    · rw [if_pos a]
      rcases a with rfl | rfl <;> decide
    · rw [if_neg a] at h ⊢
      by_cases b : s = 4 ∨ s = 5
      · rw [if_pos b]
        rcases b with rfl | rfl <;> decide
      · rw [if_neg b] at h
        exact absurd rfl h
  · rw [if_neg h7] at h ⊢
    by_cases a : e = 6 ∧ s = 2
    · obtain ⟨rfl, rfl⟩ := a
      decide
    · rw [if_neg a] at h ⊢
      by_cases b : 1 ≤ e ∧ e ≤ 5 ∧ s = e
      · rw [if_pos b]
        obtain ⟨b1, b2, rfl⟩ := b
        obtain rfl | rfl | rfl | rfl | rfl : s = 1 ∨ s = 2 ∨ s = 3 ∨ s = 4 ∨ s = 5 := by omega
        all_goals decide
      · rw [if_neg b] at h
        exact absurd rfl h
theorem mem_refN : ∀ x ∈ ents, refN x.1 x.2.1 = x.2.2 ∧ x.2.2 ≠ 0 := by decide
theorem ki_inj {s e s' e' : Int} (h : ki s e = ki s' e') : s = s' ∧ e = e' := by
  unfold ki at h
  simp only [Value.agg.injEq, Array.mk.injEq, List.cons.injEq, Value.int.injEq, true_and, and_true] at h
  exact h

theorem keyedC : Keyed Try.prog 83 := Keyed.of_law (deep_law_laid (m := 2) (by kernel_rfl) (by omega) (of_decide_eq_true (by kernel_rfl)) (by kernel_rfl) (by kernel_rfl))
theorem tySize : ∃ n, Try.prog.types.size = n + 1 := ⟨_, show Try.prog.types.size = (Try.prog.types.size - 1) + 1 by kernel_rfl⟩
theorem key_ki {s e : Int} (hs : (Lit.int .i64 s).wf = true) (he : (Lit.int .i64 e).wf = true) : ∃ l, keyOf Try.prog 83 (ki s e) = some l := by
  obtain ⟨n, hn⟩ := tySize
  exact keyOf_ints2 Try.underlying83 Try.underlying3 Try.underlying3 (by kernel_rfl) hn (by kernel_rfl) (by kernel_rfl) (by kernel_rfl) rfl rfl rfl rfl hs he
theorem keys_ents : ∀ p ∈ ents.map entP, ∃ l, keyOf Try.prog 83 p.1 = some l := fun p hp => by
  obtain ⟨x, hx, rfl⟩ := List.mem_map.1 hp
  have : ∀ x ∈ ents, (Lit.int .i64 x.1).wf = true ∧ (Lit.int .i64 x.2.1).wf = true := by decide
  exact key_ki (this x hx).1 (this x hx).2
theorem zeroI (w : World) : (zeroValue 3).run Try.prog w = .ok (.int .i64 0) w := by kernel_rfl
/-- 'next, ok := table()[cause{status, event}]'. -/
theorem look {w : World} {b : Nat} (h : TabAt w b (ents.map entP)) {s e : Int} (hs : (Lit.int .i64 s).wf = true) (he : (Lit.int .i64 e).wf = true) :
    (Instr.lookup 80 (.map (some b)) (ki s e) true).run Try.prog w = .ok (.tuple #[.int .i64 (refN s e), .bool (refN s e != 0)]) w := by
  obtain ⟨l, hl⟩ := key_ki hs he
  rcases h.lookup keyedC Try.underlying80 (zeroI w) keys_ents hl with ⟨v, hv, hr⟩ | ⟨hne, hr⟩
  · obtain ⟨x, hx, hxe⟩ := List.mem_map.1 hv
    unfold entP at hxe
    simp only [Prod.mk.injEq] at hxe
    obtain ⟨h1, h2⟩ := ki_inj hxe.1
    obtain ⟨h3, h4⟩ := mem_refN x hx
    rw [h1, h2] at h3
    rw [hr, h3, ← hxe.2]
    simp [h4]
  · have h0 : refN s e = 0 := by
      rcases Decidable.em (refN s e = 0) with h | h
      · exact h
      · exact absurd rfl (hne _ (List.mem_map.2 ⟨_, refN_mem h, rfl⟩))
    rw [hr, h0]
    rfl

theorem ent_keys {D : List Nat} (h : ∀ x ∈ D, x < 10) : ∀ p ∈ D.map ent, ∃ l, keyOf Try.prog 83 p.1 = some l := fun p hp => by
  obtain ⟨x, hx, rfl⟩ := List.mem_map.1 hp
  refine keys_ents _ ?_
  rw [← ent_all]
  exact List.mem_map.2 ⟨x, List.mem_range.2 (h x hx), rfl⟩
theorem ent_ne : ∀ x, x < 10 → ∀ j, j < 10 → x ≠ j → (ent x).1 ≠ (ent j).1 := fun x hx j hj hne he => by
  have key : ∀ x, x < 10 → ∀ j, j < 10 → (ents.getD x (0, 0, 0)).1 = (ents.getD j (0, 0, 0)).1 → (ents.getD x (0, 0, 0)).2.1 = (ents.getD j (0, 0, 0)).2.1 → x = j := by decide
  obtain ⟨h1, h2⟩ := ki_inj he
  exact hne (key x hx j hj h1 h2)
theorem ent_step {P : Program} {ops : Array Oper} {Q : Exit → Act → World → Prop} {a : Act} {b j : Nat} {D : List Nat} {w : World} {K : Act → World → Prop} {i s : Nat} {o : Oper} (hP : P = Try.prog)
    (ho : ops[i]? = some o) (hg : o.guard = none) (hd : o.dst = none) (hop : o.op = .insert 80 (.tmp 1) (.tmp s) (.const (ent j).2)) (hm : a.eval (.tmp 1) = .map (some b)) (hx : a.eval (.tmp s) = (ent j).1)
    (hj : j < 10) (hD : ∀ x ∈ D, x < 10 ∧ x ≠ j) (hT : TabAt w b (D.map ent)) (hK : ∀ w', TabAt w' b ((j :: D).map ent) → w.grownBy w' (some b) → K a w') : wpOp P ops Q i K a w := by
  subst hP
  obtain ⟨l, hl⟩ := ent_keys (D := [j]) (by simp [hj]) (ent j) (by simp)
  exact wpOp_at ho hg (wp_insert hT keyedC _ _ _ hop hd (ent j).1 (ent j).2 hm hx rfl Try.underlying80 (ent_keys fun x hx => (hD x hx).1) hl (fun p hp => by
    obtain ⟨x, hx, rfl⟩ := List.mem_map.1 hp
    exact ent_ne x (hD x hx).1 j hj (hD x hx).2) hK)

set_option maxHeartbeats 1000000 in
theorem table_any (w : World) : Calls Try.prog 53 #[] w fun e w' => ∃ b, e = .returned (.map (some b)) ∧ TabAt w' b (ents.map entP) ∧ Below w.heap.size w w' := by
  go_enter Try.func53, Try.ntmps53
  go_wp2
  refine wp_region_first (fun _ => True) 21 11 [1, 3, 5, 7, 9, 11, 13, 15, 17, 19] (by kernel_rfl) (by kernel_rfl) trivial ?_
  simp only [List.filterMap_cons, List.filterMap_nil, List.getElem?_toArray, List.getElem?_cons_zero, List.getElem?_cons_succ]
  show wpQuiet _ _ _ _ [_, _, _, _, _, _, _, _, _, _] _
  refine q_val (ki 1 1) rfl (fun w => by kernel_rfl) ?_
  refine q_val (ki 2 2) rfl (fun w => by kernel_rfl) ?_
  refine q_val (ki 3 3) rfl (fun w => by kernel_rfl) ?_
  refine q_val (ki 4 4) rfl (fun w => by kernel_rfl) ?_
  refine q_val (ki 5 5) rfl (fun w => by kernel_rfl) ?_
  refine q_val (ki 2 6) rfl (fun w => by kernel_rfl) ?_
  refine q_val (ki 2 7) rfl (fun w => by kernel_rfl) ?_
  refine q_val (ki 3 7) rfl (fun w => by kernel_rfl) ?_
  refine q_val (ki 4 7) rfl (fun w => by kernel_rfl) ?_
  refine q_val (ki 5 7) rfl (fun w => by kernel_rfl) ?_
  refine wpQuiet_nil ?_
  simp only [Act.put, List.setIfInBounds_toArray, List.set_cons_zero, List.set_cons_succ]
  refine headF_one (i := 0) (by kernel_rfl) (by omega) ?_
  refine wpOp_at rfl rfl (wp_makeMap 80 rfl ⟨trivial, ?_⟩)
  simp only [Act.put, List.setIfInBounds_toArray, List.set_cons_zero, List.set_cons_succ]
  refine headF_lit (ent := ent) (at_ := fun j => 2 * j + 2) (w0 := w) (b := w.heap.size) (by kernel_rfl) ?_ (tabAt_made w.drew) ((Below.refl _ w).drew.alloc (Nat.le_refl _) _) (Nat.le_refl _) ?_
  · intro j D w1 hj hD hT K hK
    obtain rfl | rfl | rfl | rfl | rfl | rfl | rfl | rfl | rfl | rfl : j = 0 ∨ j = 1 ∨ j = 2 ∨ j = 3 ∨ j = 4 ∨ j = 5 ∨ j = 6 ∨ j = 7 ∨ j = 8 ∨ j = 9 := by omega
    · exact ent_step (i := 2) (s := 2) rfl rfl rfl rfl rfl rfl rfl hj hD hT hK
    · exact ent_step (i := 4) (s := 3) rfl rfl rfl rfl rfl rfl rfl hj hD hT hK
    · exact ent_step (i := 6) (s := 4) rfl rfl rfl rfl rfl rfl rfl hj hD hT hK
    · exact ent_step (i := 8) (s := 5) rfl rfl rfl rfl rfl rfl rfl hj hD hT hK
    · exact ent_step (i := 10) (s := 6) rfl rfl rfl rfl rfl rfl rfl hj hD hT hK
    · exact ent_step (i := 12) (s := 7) rfl rfl rfl rfl rfl rfl rfl hj hD hT hK
    · exact ent_step (i := 14) (s := 8) rfl rfl rfl rfl rfl rfl rfl hj hD hT hK
    · exact ent_step (i := 16) (s := 9) rfl rfl rfl rfl rfl rfl rfl hj hD hT hK
    · exact ent_step (i := 18) (s := 10) rfl rfl rfl rfl rfl rfl rfl hj hD hT hK
    · exact ent_step (i := 20) (s := 11) rfl rfl rfl rfl rfl rfl rfl hj hD hT hK
  · intro w1 hT hb
    refine ⟨by kernel_rfl, ?_⟩
    simp only [List.drop_succ_cons, List.drop_zero]
    have HT := Lib.hid hT
    have HB := Lib.hid hb
    clear hT hb
    go_wp2
    refine NoPanic.normal ?_
    go_wp2
    go_ret
    exact ⟨_, rfl, HT.out, HB.out⟩
end Go.Proofs.Ytfcjgllljejfcaa
