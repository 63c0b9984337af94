/- The Go function egress/egresslaw24.AuditNames returns true for every input, and leaves its arguments as they were. Conditions: none but the statement's own. -/
import Derived.Test.YtobgbcdgffgdhaaGreatZu02
import Derived.Test.YtobgbcdgffgdhaaGreatZu23
import Derived.ShutString
namespace Go.Proofs.YtobgbcdgffgdhaaGreat
set_option linter.unusedVariables false
set_option linter.unusedSimpArgs false
section
open Go Go.RowKit Go.Deep
set_option maxRecDepth 100000
def nmsC : Array Value := #[.string (nmB 0), .string (nmB 1), .string (nmB 2), .string (nmB 3), .string (nmB 4), .string (nmB 5), .string (nmB 6), .string (nmB 7), .string (nmB 8), .string (nmB 9), .string (nmB 10), .string (nmB 11)]
theorem str_nfo : ∃ i, Tryz.prog.info? 9 = some i ∧ i.size = 1 ∧ i.zero = some (.string ⟨#[]⟩) := by
 have h : (Tryz.prog.info? 9).map (fun i => (i.size, i.zero)) = some (1, some (.string ⟨#[]⟩)) := by kernel_rfl
 cases hi : Tryz.prog.info? 9 with
 | none => rw [hi] at h; cases h
 | some i =>
  rw [hi] at h
  simp at h
  exact ⟨i, rfl, h.1, h.2⟩
theorem run_nms (w : World) : (Instr.buildSlice 62 12 #[(0, .string (nmB 0)), (1, .string (nmB 1)), (2, .string (nmB 2)), (3, .string (nmB 3)), (4, .string (nmB 4)), (5, .string (nmB 5)), (6, .string (nmB 6)), (7, .string (nmB 7)), (8, .string (nmB 8)), (9, .string (nmB 9)), (10, .string (nmB 10)), (11, .string (nmB 11))]).run Tryz.prog w = .ok (.slice (some ⟨w.heap.size, 0, none⟩) 12 12) (w.alloc (.cells nmsC 9)) := by
 obtain ⟨i, hi, hs, hz⟩ := str_nfo
 simp [Instr.buildSlice, run_underlying Tryz.underlying62, sizeOf, typeInfo, hi, hz, hs, Instr.fill, newRow, go_sem, nmsC, Value.cells]
theorem nms_at (k : Nat) (hk : k < 12) : nmsC[k]? = some (.string (nmB k)) := by
 have : k = 0 ∨ k = 1 ∨ k = 2 ∨ k = 3 ∨ k = 4 ∨ k = 5 ∨ k = 6 ∨ k = 7 ∨ k = 8 ∨ k = 9 ∨ k = 10 ∨ k = 11 := by omega
 rcases this with rfl | rfl | rfl | rfl | rfl | rfl | rfl | rfl | rfl | rfl | rfl | rfl <;> rfl
theorem wpList_nms {ops : Array Oper} {rest : List Oper} {o : Oper} {a : Act} {w : World} {Q : Exit → Act → World → Prop} (hgd : o.guard = none) (ho : o.op = .buildSlice 62 12 #[(0, .const (.string (nmB 0))), (1, .const (.string (nmB 1))), (2, .const (.string (nmB 2))), (3, .const (.string (nmB 3))), (4, .const (.string (nmB 4))), (5, .const (.string (nmB 5))), (6, .const (.string (nmB 6))), (7, .const (.string (nmB 7))), (8, .const (.string (nmB 8))), (9, .const (.string (nmB 9))), (10, .const (.string (nmB 10))), (11, .const (.string (nmB 11)))])
  (K : wpList Tryz.prog ops Q rest (a.put o.dst (.slice (some ⟨w.heap.size, 0, none⟩) 12 12)) (w.alloc (.cells nmsC 9))) : wpList Tryz.prog ops Q (o :: rest) a w :=
 wpList_plain hgd fun _ hK => by
  unfold Oper.wp execOp
  have hr := run_nms w
  simp only [ho, List.map_toArray, List.map_cons, List.map_nil, Act.eval, Sem.run_bind]
  rw [hr]
  simp only [Result.andThen_ok, Sem.run_pure]
  exact hK _ _ K
set_option maxHeartbeats 3200000 in
theorem walk_AuditNames (a0 : Int) (w : World) (w0 : (Lit.int .i64 a0).wf = true) :
  CallB 6 #[.int .i64 a0] w (.bool true) := by
 obtain ⟨b0, b1⟩ := bounds_i64 w0
 have HV := Lib.hid alive24
 have HN := Lib.hid (fun W => Name_any a0 W w0)
 have HR := Lib.hid Rules_any
 have N0 : Hid (Blk (w.alloc (.cells nmsC 9)) w.heap.size 9 nmsC) := Lib.hid (Blk.new w _ _)
 have BB : Hid (Below w.heap.size w (w.alloc (.cells nmsC 9))) := Lib.hid ((Below.refl _ _).alloc (Nat.le_refl _) _)
 clear w0
 by_cases h1 : 1 ≤ a0
 ·have d1 : decide (1 ≤ a0) = true := decide_eq_true h1
  by_cases h2 : a0 ≤ 12
  ·have d2 : decide (a0 ≤ 12) = true := decide_eq_true h2
   obtain ⟨k, hk⟩ : ∃ k : Nat, a0 = (k : Int) + 1 := ⟨(a0 - 1).toNat, by omega⟩
   have hk12 : k < 12 := by omega
   have e : nameB a0 = nmB k := by unfold nameB; rw [if_pos (by omega), show (a0 - 1).toNat = k by omega]
   rw [e] at HN
   have hw : wrap64 (a0 - 1) = (k : Int) := by unfold wrap64; omega
   have hat := nms_at k hk12
   generalize nmB k = nm at *
   have dn : (nm.toList == nm.toList) = true := by simp
   clear e hk h1 h2 b0 b1
   go_enter Tryz.func6, Tryz.ntmps6
   go_upto_region 3 with (first | (refine wpList_nms (o := ⟨some 5, _, _, _, _, _⟩) rfl rfl ?_))
   try simp only [Act.put]
   generalize w.alloc (.cells nmsC 9) = W at *
   have hcell : W.cell? ⟨w.heap.size, k, none⟩ = some (.string nm) := by rw [N0.out.cell k]; exact hat
   clear hat
   go_wp2_with fail
   refine (HV.out _).mono ?_
   rintro e w1 ⟨rfl, hb⟩
   have B1 : Hid (Below w.heap.size w w1) := Lib.hid (BB.out.trans (hb.mono BB.out.size))
   clear hb
   go_wp2_with fail
   refine (HN.out w1).mono ?_
   rintro e w2 ⟨rfl, hb⟩
   have B2 : Hid (Below w.heap.size w w2) := Lib.hid (B1.out.trans (hb.mono B1.out.size))
   clear hb
   go_wp2_with fail
   refine (HR.out w2).mono ?_
   rintro e w3 ⟨rfl, hb⟩
   have B3 : Hid (Below w.heap.size w w3) := Lib.hid (B2.out.trans (hb.mono B2.out.size))
   clear hb
   go_wp2_with fail
   go_ret
   exact ⟨rfl, B3.out⟩
  ·have d2 : decide (a0 ≤ 12) = false := decide_eq_false h2
   have e : nameB a0 = ⟨#[]⟩ := if_neg (by omega)
   rw [e] at HN
   clear e h1 h2 b0 b1
   go_enter Tryz.func6, Tryz.ntmps6
   go_upto_region 3 with (first | (refine wpList_nms (o := ⟨some 5, _, _, _, _, _⟩) rfl rfl ?_))
   try simp only [Act.put]
   generalize w.alloc (.cells nmsC 9) = W at *
   go_wp2_with fail
   refine (HV.out _).mono ?_
   rintro e w1 ⟨rfl, hb⟩
   have B1 : Hid (Below w.heap.size w w1) := Lib.hid (BB.out.trans (hb.mono BB.out.size))
   clear hb
   go_wp2_with fail
   refine (HN.out w1).mono ?_
   rintro e w2 ⟨rfl, hb⟩
   have B2 : Hid (Below w.heap.size w w2) := Lib.hid (B1.out.trans (hb.mono B1.out.size))
   clear hb
   go_wp2_with fail
   refine (HR.out w2).mono ?_
   rintro e w3 ⟨rfl, hb⟩
   have B3 : Hid (Below w.heap.size w w3) := Lib.hid (B2.out.trans (hb.mono B2.out.size))
   clear hb
   go_wp2_with fail
   go_ret
   exact ⟨rfl, B3.out⟩
 ·have d1 : decide (1 ≤ a0) = false := decide_eq_false h1
  have e : nameB a0 = ⟨#[]⟩ := if_neg (by omega)
  rw [e] at HN
  clear e h1 b0 b1
  go_enter Tryz.func6, Tryz.ntmps6
  go_upto_region 3 with (first | (refine wpList_nms (o := ⟨some 5, _, _, _, _, _⟩) rfl rfl ?_))
  try simp only [Act.put]
  generalize w.alloc (.cells nmsC 9) = W at *
  go_wp2_with fail
  refine (HV.out _).mono ?_
  rintro e w1 ⟨rfl, hb⟩
  have B1 : Hid (Below w.heap.size w w1) := Lib.hid (BB.out.trans (hb.mono BB.out.size))
  clear hb
  go_wp2_with fail
  refine (HN.out w1).mono ?_
  rintro e w2 ⟨rfl, hb⟩
  have B2 : Hid (Below w.heap.size w w2) := Lib.hid (B1.out.trans (hb.mono B1.out.size))
  clear hb
  go_wp2_with fail
  refine (HR.out w2).mono ?_
  rintro e w3 ⟨rfl, hb⟩
  have B3 : Hid (Below w.heap.size w w3) := Lib.hid (B2.out.trans (hb.mono B2.out.size))
  clear hb
  go_wp2_with fail
  go_ret
  exact ⟨rfl, B3.out⟩
end
section
open Go Go.ChangeShapes Go.WideShapes Go.ChangeAt Go.RowKit
open Go.ChangeMaps (open_string shut_string)
theorem own : ownKnob Tryz.prog.godebug = none := bigOwn
theorem laidOut : laidOutB Tryz.prog = true := bigLaid
set_option maxRecDepth 100000 in
theorem lifted (os : Os) (started : os.Started) (H : Type) (enc : TypeId × Value → H) :
  ReturnsInHanded {} Tryz.checked os 6 .any (Rows.auditNamesSpec.pre6 enc Tryz.prog Tryz.f6 Rows.auditNamesRow.domain false) (Rows.auditNamesSpec.post enc Tryz.prog Tryz.f6 false true false false) := by
 refine returnsInHanded_of_change (C := Tryz.checked) own started (by as_aux_lemma => kernel_rfl) Tryz.func6
  (ChangeSpec.witness6 (enc := enc) (C := Tryz.checked) false ⟨#[], #[.int .i64 0], []⟩ 8 (by as_aux_lemma => kernel_rfl) (by as_aux_lemma => kernel_rfl) (by as_aux_lemma => kernel_rfl) (by as_aux_lemma => kernel_rfl)) ?_
 intro W base args ds gs before hval0 hW hcnd hsz
 have hval : ∀ (j : Nat) t v, Tryz.f6.params[j]? = some t → args[j]? = some v → Value.okWide Tryz.prog W .any base t v := hval0
 have hW' := hW
 obtain ⟨p, q, hA0, hV, rfl, hfz, hnd⟩ := hW
 have hA : DataW.TrodAll enc Tryz.prog W 0 (fun _ => true) true Tryz.f6.params.toList args.toList ds p := hA0
 rw [Tryz.params6] at hA hval
 obtain ⟨v0, vs0, d0, ds0, p0, q0, hargs, rfl, rfl, h0, r0⟩ := trodAll_cons hA
 obtain ⟨rfl, rfl, rfl⟩ := trodAll_nil r0
 obtain rfl : args = #[v0] := by cases args; simp_all
 obtain ⟨rfl, rfl⟩ := trodVars_none hV
 obtain ⟨a0, rfl, rfl, rfl, w0⟩ := open_int Tryz.underlying3 (hval 0 3 v0 rfl rfl) h0
 clear hA0 hval0
 refine (walk_AuditNames a0 W w0).mono fun e W' ⟨he, bel⟩ => ?_
 subst he
 exact ⟨_, rfl, _, _, _, [], _, [], hW', trodAll_mk1 (shut_bool Tryz.underlying4 _), (trodAll_cons_mk (shut_int Tryz.underlying3 w0) trodAll_mk0), rfl, bel.frame _, fun h => by cases h⟩
theorem and_mk {a b : Bool} (ha : a = true) (hb : b = true) : (a && b) = true := by rw [ha, hb]; rfl
set_option maxHeartbeats 6400000 in
theorem closed : joinedFacts Tryz.prog 6 Tryz.f6 Rows.auditNamesSpec Rows.auditNamesRow = true := by
 unfold joinedFacts
 exact (and_mk (and_mk (and_mk (and_mk (and_mk (and_mk (and_mk (and_mk (and_mk (and_mk (and_mk (and_mk (and_mk (and_mk (and_mk (and_mk (and_mk (and_mk (and_mk (and_mk (and_mk (and_mk (and_mk (and_mk (and_mk (and_mk (and_mk (and_mk (and_mk (and_mk (and_mk (by as_aux_lemma => kernel_rfl) bigLaid) bigMaps) (by as_aux_lemma => kernel_rfl)) (by as_aux_lemma => kernel_rfl)) (by as_aux_lemma => kernel_rfl)) bigStops) (by as_aux_lemma => kernel_rfl)) bigKnobs) (by as_aux_lemma => kernel_rfl)) (by as_aux_lemma => kernel_rfl)) (by as_aux_lemma => kernel_rfl)) (by as_aux_lemma => kernel_rfl)) (by as_aux_lemma => kernel_rfl)) (by as_aux_lemma => kernel_rfl)) (by as_aux_lemma => kernel_rfl)) (by as_aux_lemma => kernel_rfl)) (by as_aux_lemma => kernel_rfl)) (by as_aux_lemma => kernel_rfl)) (by as_aux_lemma => kernel_rfl)) (by as_aux_lemma => kernel_rfl)) (by as_aux_lemma => kernel_rfl)) bigKeys) (by as_aux_lemma => kernel_rfl)) bigHeard) bigEnter) bigLift) bigMake) (by as_aux_lemma => kernel_rfl)) (by as_aux_lemma => kernel_rfl)) (by as_aux_lemma => kernel_rfl)) (by as_aux_lemma => kernel_rfl))
set_option maxHeartbeats 6400000 in
theorem over : Rows.auditNamesRow.holds Tryz.pinned (OpenSpec.ofChange Rows.auditNamesSpec) :=
 OpenClaim.holds_of_wide 6 Tryz.f6 rfl rfl rfl rfl rfl rfl rfl ⟨rfl, rfl, rfl, rfl, rfl⟩ rfl rfl rfl rfl rfl (by as_aux_lemma => kernel_rfl) Tryz.func6 closed
  (of_decide_eq_true (by as_aux_lemma => kernel_rfl)) (by unfold Func.isWrapper; first | (rw [if_pos (by decide +kernel)]; kernel_rfl) | (rw [if_neg (by decide +kernel)]; exact ⟨rfl, rfl⟩))
  (fun os started H enc _ => lifted os started H enc)
theorem proved : Rows.AuditNamesSaid := over
end
end Go.Proofs.YtobgbcdgffgdhaaGreat
