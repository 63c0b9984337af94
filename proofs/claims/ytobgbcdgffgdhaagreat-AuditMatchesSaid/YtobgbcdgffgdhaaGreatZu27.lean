/- The Go function egress/egresslaw24.AuditMatches returns true for every input, and leaves its arguments as they were. Conditions: none but the statement's own. -/
import Derived.Test.YtobgbcdgffgdhaaGreatZu02
import Derived.Test.YtobgbcdgffgdhaaGreatZu25
import Derived.ShutString
namespace Go.Proofs.YtobgbcdgffgdhaaGreat
set_option linter.unusedVariables false
set_option linter.unusedSimpArgs false
section
open Go Go.RowKit Go.Deep
set_option maxRecDepth 100000
set_option maxHeartbeats 6400000 in
theorem walk_AuditMatches (a0 : Sx) (a1 : Nat → Int) (w : World) (w0 : FitsSx w a0) (w1 : Fits a1) :
  CallB 3 #[.agg (cellsSx a0), .agg (cellsOf a1)] w (.bool true) := by
 obtain ⟨V, pd, F, W, hs⟩ := w0
 have T0 := Lib.hid (SC.new w a0 a1)
 have HV := Lib.hid alive24
 have HCK := Lib.hid (refCheck_any a1)
 have HFW := Lib.hid (few_call hs)
 have HSX := Lib.hid (And.intro hs w1)
 clear hs w1
 by_cases hc : chk a1 = 0
 ·have dc : (chk a1 != 0) = false := by simp [hc]
  have HC := Lib.hid hc
  rw [hc] at HCK
  clear hc dc
  cases hq : fewS a0 V with
  | true =>
   have HAU := Lib.hid (au_of HSX.out.1 HSX.out.2 HC.out hq)
   have HQ := Lib.hid hq
   rw [hq] at HFW
   clear hq
   go_enter Tryz.func3, Tryz.ntmps3
   go_upto_region 1 with (fail)
   generalize (w.alloc (.cells (cellsSx a0) 28)).alloc (.cells (cellsOf a1) 30) = W0 at *
   go_wp2_with (first | (refine wlr 28 w.heap.size T0.out.1 Tryz.underlying28 infoSx ?_))
   refine (state_any a0 W0).mono ?_
   rintro e z1 ⟨rfl, hb⟩
   have T1 := Lib.hid (T0.out.next hb)
   clear hb T0
   have N1 : Hid (Blk (z1.alloc (.cells (cellsSt a0) 32)) z1.heap.size 32 (cellsSt a0)) := Lib.hid (Blk.new z1 _ _)
   have T2 := Lib.hid (T1.out.next ((Below.refl _ z1).alloc (Nat.le_refl _) (.cells (cellsSt a0) 32)))
   go_upto_region 2 with (first | (refine wsr z1.heap.size (cellsSt a0) 32 (heap_alloc_new z1 _) infoSt (cellsSt_one a0) ?_; rw [World.setRow_alloc_new]))
   try simp only [Act.put]
   generalize z1.alloc (.cells (cellsSt a0) 32) = z2 at *
   generalize z1.heap.size = sb at *
   clear T1
   go_wp2_with (first | (refine wlr 30 (w.heap.size + 1) T2.out.2.1 Tryz.underlying30 infoCf ?_))
   refine (HCK.out _).mono ?_
   rintro e z3 ⟨rfl, hb⟩
   have T3 := Lib.hid (T2.out.next hb)
   have N3 := Lib.hid (N1.out.below hb N1.out.lt)
   clear hb T2 N1
   go_wp2_with (first | (refine wpList_load_rowG rfl 32 _ rfl sb rfl 32 _ (0, 0) _ N3.out Tryz.underlying32 rfl infoSt ?_))
   refine (HFW.out z3 T3.out.2.2).mono ?_
   rintro e z4 ⟨rfl, hb⟩
   have T4 := Lib.hid (T3.out.next hb)
   have N4 := Lib.hid (N3.out.below hb N3.out.lt)
   clear hb T3 N3
   go_wp2_with (first | (refine wlr 28 w.heap.size T4.out.1 Tryz.underlying28 infoSx ?_) | (refine wlr 30 (w.heap.size + 1) T4.out.2.1 Tryz.underlying30 infoCf ?_))
   have HAL := Lib.hid (All_any z4 (HAU.out.below T4.out.2.2))
   have HCH : Hid (∀ W1, Below w.heap.size w W1 → CallB 16 #[.agg (cellsSx a0), .agg (cellsOf a1)] W1 (.int .i64 (firstV a1 (anOf a0 V pd F W)))) := Lib.hid fun W1 hb => Check_any W1 (HAU.out.below hb)
   have HRA : Hid (∀ W1, Below w.heap.size w W1 → Calls Tryz.prog 15 #[.agg (cellsSt a0), .agg (cellsOf a1)] W1 fun e w' => ∃ v, e = .returned v ∧ OwnI w' W1.heap.size v (violK a1 (anOf a0 V pd F W) 12) ∧ Below W1.heap.size W1 w') := Lib.hid fun W1 hb => rAll_any W1 (HAU.out.below hb) HQ.out
   have HF0 : Hid (firstV a1 (anOf a0 V pd F W) = (violK a1 (anOf a0 V pd F W) 12).headD 0) := Lib.hid rfl
   generalize firstV a1 (anOf a0 V pd F W) = fv at *
   have HLE : Hid ((violK a1 (anOf a0 V pd F W) 12).length ≤ 12) := Lib.hid (viol_len _ _ 12)
   generalize violK a1 (anOf a0 V pd F W) 12 = L at *
   refine HAL.out.mono ?_
   rintro e z5 ⟨v, rfl, ho, hb⟩
   obtain ⟨pa, ca, rfl, _, _, _, hi⟩ := ints_of_owns (S := fun _ => False) ho fun _ _ h => h
   have HI := Lib.hid hi
   have T5 := Lib.hid (T4.out.next hb)
   have N5 := Lib.hid (N4.out.below hb N4.out.lt)
   clear ho hb hi T4 N4 HAL
   obtain ⟨n, hn⟩ := named (L.length)
   have HN := Lib.hid hn
   rw [hn]
   clear hn
   by_cases h0 : 0 < n
   ·have d0 : decide ((0 : Int) < (n : Int)) = true := decide_eq_true (by omega)
    have d00 : decide (0 < n) = true := decide_eq_true h0
    obtain ⟨b, off, rfl, _, hbl, hcc⟩ := HI.out (by rw [HN.out]; exact h0)
    have hcell : z5.cell? ⟨b, off, none⟩ = some (.int .i64 fv) := by
     have := hcc 0 (by rw [HN.out]; exact h0)
     rw [Nat.add_zero] at this
     rw [this, HF0.out, List.getD_eq_getElem?_getD]
     cases L <;> rfl
    clear hcc hbl
    have h00 : (0 : Int) < (n : Int) := by omega
    go_wp2_with fail
    refine (HV.out _).mono ?_
    rintro e z6 ⟨rfl, hb⟩
    have T6 := Lib.hid (T5.out.next hb)
    have N6 := Lib.hid (N5.out.below hb N5.out.lt)
    have HI6 := Lib.hid (HI.out.below hb)
    clear hb T5 N5 HI hcell
    go_wp2_with (first | (refine wpList_load_rowG rfl 32 _ rfl sb rfl 32 _ (0, 0) _ N6.out Tryz.underlying32 rfl infoSt ?_) | (refine wpList_load_rowG rfl 30 _ rfl (w.heap.size + 1) rfl 30 _ (0, 0) _ T6.out.2.1 Tryz.underlying30 rfl infoCf ?_))
    refine (HRA.out z6 T6.out.2.2).mono ?_
    rintro e z7 ⟨v7, rfl, ho, hb⟩
    obtain ⟨pb, cb, rfl, _, _, _, hi⟩ := ints_of_owns (S := fun _ => False) ho fun _ _ h => h
    have HJ := Lib.hid hi
    have T7 := Lib.hid (T6.out.next hb)
    have HI7 := Lib.hid (HI6.out.below hb)
    clear ho hb hi T6 N6 HI6
    rw [HN.out]
    go_wp2_with fail
    refine (equal_same (L := L) (n := n) HI7.out HJ.out HN.out (by have := HLE.out; have := HN.out; omega)).mono ?_
    rintro e _ ⟨rfl, m, rfl⟩
    have T8 := Lib.hid (T7.out.next (below_drewN (Below.refl _ z7) m))
    clear T7 HI7 HJ
    generalize z7.drewN m = z8 at *
    go_wp2_with (first | (refine wpList_load_rowG rfl 28 _ rfl w.heap.size rfl 28 _ (0, 0) _ T8.out.1 Tryz.underlying28 rfl infoSx ?_) | (refine wpList_load_rowG rfl 30 _ rfl (w.heap.size + 1) rfl 30 _ (0, 0) _ T8.out.2.1 Tryz.underlying30 rfl infoCf ?_))
    refine (HCH.out z8 T8.out.2.2).mono ?_
    rintro e z9 ⟨rfl, hb⟩
    have T9 := Lib.hid (T8.out.next hb)
    clear hb T8
    have dv : (fv == fv) = true := by simp
    go_wp2_with fail
    go_ret
    exact ⟨rfl, T9.out.2.2⟩
   ·have d0 : decide ((0 : Int) < (n : Int)) = false := decide_eq_false (by omega)
    have d00 : decide (0 < n) = false := decide_eq_false h0
    have hfv : fv = 0 := by
     rw [HF0.out, List.eq_nil_of_length_eq_zero (l := L) (by rw [HN.out]; omega)]
     rfl
    subst hfv
    clear h0
    go_wp2_with fail
    refine (HV.out _).mono ?_
    rintro e z6 ⟨rfl, hb⟩
    have T6 := Lib.hid (T5.out.next hb)
    have N6 := Lib.hid (N5.out.below hb N5.out.lt)
    have HI6 := Lib.hid (HI.out.below hb)
    clear hb T5 N5 HI
    go_wp2_with (first | (refine wpList_load_rowG rfl 32 _ rfl sb rfl 32 _ (0, 0) _ N6.out Tryz.underlying32 rfl infoSt ?_) | (refine wpList_load_rowG rfl 30 _ rfl (w.heap.size + 1) rfl 30 _ (0, 0) _ T6.out.2.1 Tryz.underlying30 rfl infoCf ?_))
    refine (HRA.out z6 T6.out.2.2).mono ?_
    rintro e z7 ⟨v7, rfl, ho, hb⟩
    obtain ⟨pb, cb, rfl, _, _, _, hi⟩ := ints_of_owns (S := fun _ => False) ho fun _ _ h => h
    have HJ := Lib.hid hi
    have T7 := Lib.hid (T6.out.next hb)
    have HI7 := Lib.hid (HI6.out.below hb)
    clear ho hb hi T6 N6 HI6
    rw [HN.out]
    go_wp2_with fail
    refine (equal_same (L := L) (n := n) HI7.out HJ.out HN.out (by have := HLE.out; have := HN.out; omega)).mono ?_
    rintro e _ ⟨rfl, m, rfl⟩
    have T8 := Lib.hid (T7.out.next (below_drewN (Below.refl _ z7) m))
    clear T7 HI7 HJ
    generalize z7.drewN m = z8 at *
    go_wp2_with (first | (refine wpList_load_rowG rfl 28 _ rfl w.heap.size rfl 28 _ (0, 0) _ T8.out.1 Tryz.underlying28 rfl infoSx ?_) | (refine wpList_load_rowG rfl 30 _ rfl (w.heap.size + 1) rfl 30 _ (0, 0) _ T8.out.2.1 Tryz.underlying30 rfl infoCf ?_))
    refine (HCH.out z8 T8.out.2.2).mono ?_
    rintro e z9 ⟨rfl, hb⟩
    have T9 := Lib.hid (T8.out.next hb)
    clear hb T8
    skip
    go_wp2_with fail
    go_ret
    exact ⟨rfl, T9.out.2.2⟩
  | false =>
   rw [hq] at HFW
   clear hq
   go_enter Tryz.func3, Tryz.ntmps3
   go_upto_region 1 with (fail)
   generalize (w.alloc (.cells (cellsSx a0) 28)).alloc (.cells (cellsOf a1) 30) = W0 at *
   go_wp2_with (first | (refine wlr 28 w.heap.size T0.out.1 Tryz.underlying28 infoSx ?_))
   refine (state_any a0 W0).mono ?_
   rintro e z1 ⟨rfl, hb⟩
   have T1 := Lib.hid (T0.out.next hb)
   clear hb T0
   have N1 : Hid (Blk (z1.alloc (.cells (cellsSt a0) 32)) z1.heap.size 32 (cellsSt a0)) := Lib.hid (Blk.new z1 _ _)
   have T2 := Lib.hid (T1.out.next ((Below.refl _ z1).alloc (Nat.le_refl _) (.cells (cellsSt a0) 32)))
   go_upto_region 2 with (first | (refine wsr z1.heap.size (cellsSt a0) 32 (heap_alloc_new z1 _) infoSt (cellsSt_one a0) ?_; rw [World.setRow_alloc_new]))
   try simp only [Act.put]
   generalize z1.alloc (.cells (cellsSt a0) 32) = z2 at *
   generalize z1.heap.size = sb at *
   clear T1
   go_wp2_with (first | (refine wlr 30 (w.heap.size + 1) T2.out.2.1 Tryz.underlying30 infoCf ?_))
   refine (HCK.out _).mono ?_
   rintro e z3 ⟨rfl, hb⟩
   have T3 := Lib.hid (T2.out.next hb)
   have N3 := Lib.hid (N1.out.below hb N1.out.lt)
   clear hb T2 N1
   go_wp2_with (first | (refine wpList_load_rowG rfl 32 _ rfl sb rfl 32 _ (0, 0) _ N3.out Tryz.underlying32 rfl infoSt ?_))
   refine (HFW.out z3 T3.out.2.2).mono ?_
   rintro e z4 ⟨rfl, hb⟩
   have T4 := Lib.hid (T3.out.next hb)
   have N4 := Lib.hid (N3.out.below hb N3.out.lt)
   clear hb T3 N3
   go_wp2_with fail
   refine (HV.out _).mono ?_
   rintro e z9 ⟨rfl, hb⟩
   have B9 : Hid (Below w.heap.size w z9) := Lib.hid (T4.out.2.2.trans (hb.mono T4.out.2.2.size))
   clear hb
   go_wp2_with fail
   go_ret
   exact ⟨rfl, B9.out⟩
 ·have dc : (chk a1 != 0) = true := by simpa using hc
  generalize chk a1 = ck at *
  clear hc
  go_enter Tryz.func3, Tryz.ntmps3
  go_upto_region 1 with (fail)
  generalize (w.alloc (.cells (cellsSx a0) 28)).alloc (.cells (cellsOf a1) 30) = W0 at *
  go_wp2_with (first | (refine wlr 28 w.heap.size T0.out.1 Tryz.underlying28 infoSx ?_))
  refine (state_any a0 W0).mono ?_
  rintro e z1 ⟨rfl, hb⟩
  have T1 := Lib.hid (T0.out.next hb)
  clear hb T0
  have N1 : Hid (Blk (z1.alloc (.cells (cellsSt a0) 32)) z1.heap.size 32 (cellsSt a0)) := Lib.hid (Blk.new z1 _ _)
  have T2 := Lib.hid (T1.out.next ((Below.refl _ z1).alloc (Nat.le_refl _) (.cells (cellsSt a0) 32)))
  go_upto_region 2 with (first | (refine wsr z1.heap.size (cellsSt a0) 32 (heap_alloc_new z1 _) infoSt (cellsSt_one a0) ?_; rw [World.setRow_alloc_new]))
  try simp only [Act.put]
  generalize z1.alloc (.cells (cellsSt a0) 32) = z2 at *
  generalize z1.heap.size = sb at *
  clear T1
  go_wp2_with (first | (refine wlr 30 (w.heap.size + 1) T2.out.2.1 Tryz.underlying30 infoCf ?_))
  refine (HCK.out _).mono ?_
  rintro e z3 ⟨rfl, hb⟩
  have T3 := Lib.hid (T2.out.next hb)
  have N3 := Lib.hid (N1.out.below hb N1.out.lt)
  clear hb T2 N1
  go_wp2_with fail
  refine (HV.out _).mono ?_
  rintro e z9 ⟨rfl, hb⟩
  have B9 : Hid (Below w.heap.size w z9) := Lib.hid (T3.out.2.2.trans (hb.mono T3.out.2.2.size))
  clear hb
  go_wp2_with fail
  go_ret
  exact ⟨rfl, B9.out⟩
end
section
open Go Go.ChangeShapes Go.WideShapes Go.ChangeAt Go.RowKit
open Go.ChangeMaps (open_string shut_string)
theorem own : ownKnob Tryz.prog.godebug = none := bigOwn
theorem laidOut : laidOutB Tryz.prog = true := bigLaid
set_option maxRecDepth 100000 in
theorem lifted (os : Os) (started : os.Started) (H : Type) (enc : TypeId × Value → H) :
  ReturnsInHanded {} Tryz.checked os 3 .any (Rows.auditMatchesSpec.pre6 enc Tryz.prog Tryz.f3 Rows.auditMatchesRow.domain false) (Rows.auditMatchesSpec.post enc Tryz.prog Tryz.f3 false true false false) := by
 refine returnsInHanded_of_change (C := Tryz.checked) own started (by as_aux_lemma => kernel_rfl) Tryz.func3
  (ChangeSpec.witness6 (enc := enc) (C := Tryz.checked) false ⟨#[], #[.agg (cellsSx (⟨0, 0, none, 0, 0, 0, 0, 0, 0, none, 0, 0, none, 0, 0, none, 0, 0, none, 0, 0, none, 0, 0, 0, 0, 0⟩)), .agg (cellsOf (fun _ => 0))], []⟩ 8 (by as_aux_lemma => kernel_rfl) (by as_aux_lemma => kernel_rfl) (by as_aux_lemma => kernel_rfl) (by as_aux_lemma => kernel_rfl)) ?_
 intro W base args ds gs before hval0 hW hcnd hsz
 have hval : ∀ (j : Nat) t v, Tryz.f3.params[j]? = some t → args[j]? = some v → Value.okWide Tryz.prog W .any base t v := hval0
 have hW' := hW
 obtain ⟨p, q, hA0, hV, rfl, hfz, hnd⟩ := hW
 have hA : DataW.TrodAll enc Tryz.prog W 0 (fun _ => true) true Tryz.f3.params.toList args.toList ds p := hA0
 rw [Tryz.params3] at hA hval
 obtain ⟨v0, vs0, d0, ds0, p0, q0, hargs, rfl, rfl, h0, r0⟩ := trodAll_cons hA
 obtain ⟨v1, vs1, d1, ds1, p1, q1, rfl, rfl, rfl, h1, r1⟩ := trodAll_cons r0
 obtain ⟨rfl, rfl, rfl⟩ := trodAll_nil r1
 obtain rfl : args = #[v0, v1] := by cases args; simp_all
 obtain ⟨rfl, rfl⟩ := trodVars_none hV
 obtain ⟨a0, rfl, w0⟩ := open_T28 (hval 0 28 v0 rfl rfl) h0
 have k0 := h0
 have lt0 : ∀ x ∈ p0, x.block < W.heap.size := by obtain ⟨m, hm⟩ := k0; exact DataW.trod_lt m _ _ _ hm
 obtain ⟨a1, rfl, w1⟩ := open_T30 (hval 1 30 v1 rfl rfl) h1
 have k1 := h1
 have lt1 : ∀ x ∈ p1, x.block < W.heap.size := by obtain ⟨m, hm⟩ := k1; exact DataW.trod_lt m _ _ _ hm
 clear hA0 hval0
 refine (walk_AuditMatches a0 a1 W w0 w1).mono fun e W' ⟨he, bel⟩ => ?_
 subst he
 exact ⟨_, rfl, _, _, _, [], _, [], hW', trodAll_mk1 (shut_bool Tryz.underlying4 _), (trodAll_cons_mk (Below.trod laidOut (by as_aux_lemma => kernel_rfl) (of_decide_eq_true (by as_aux_lemma => kernel_rfl)) k0 bel lt0) (trodAll_cons_mk (Below.trod laidOut (by as_aux_lemma => kernel_rfl) (of_decide_eq_true (by as_aux_lemma => kernel_rfl)) k1 bel lt1) trodAll_mk0)), rfl, bel.frame _, fun h => by cases h⟩
theorem and_mk {a b : Bool} (ha : a = true) (hb : b = true) : (a && b) = true := by rw [ha, hb]; rfl
set_option maxHeartbeats 6400000 in
theorem closed : joinedFacts Tryz.prog 3 Tryz.f3 Rows.auditMatchesSpec Rows.auditMatchesRow = true := by
 unfold joinedFacts
 exact (and_mk (and_mk (and_mk (and_mk (and_mk (and_mk (and_mk (and_mk (and_mk (and_mk (and_mk (and_mk (and_mk (and_mk (and_mk (and_mk (and_mk (and_mk (and_mk (and_mk (and_mk (and_mk (and_mk (and_mk (and_mk (and_mk (and_mk (and_mk (and_mk (and_mk (and_mk (by as_aux_lemma => kernel_rfl) bigLaid) bigMaps) (by as_aux_lemma => kernel_rfl)) (by as_aux_lemma => kernel_rfl)) (by as_aux_lemma => kernel_rfl)) bigStops) (by as_aux_lemma => kernel_rfl)) bigKnobs) (by as_aux_lemma => kernel_rfl)) (by as_aux_lemma => kernel_rfl)) (by as_aux_lemma => kernel_rfl)) (by as_aux_lemma => kernel_rfl)) (by as_aux_lemma => kernel_rfl)) (by as_aux_lemma => kernel_rfl)) (by as_aux_lemma => kernel_rfl)) (by as_aux_lemma => kernel_rfl)) (by as_aux_lemma => kernel_rfl)) (by as_aux_lemma => kernel_rfl)) (by as_aux_lemma => kernel_rfl)) (by as_aux_lemma => kernel_rfl)) (by as_aux_lemma => kernel_rfl)) bigKeys) (by as_aux_lemma => kernel_rfl)) bigHeard) bigEnter) bigLift) bigMake) (by as_aux_lemma => kernel_rfl)) (by as_aux_lemma => kernel_rfl)) (by as_aux_lemma => kernel_rfl)) (by as_aux_lemma => kernel_rfl))
set_option maxHeartbeats 6400000 in
theorem over : Rows.auditMatchesRow.holds Tryz.pinned (OpenSpec.ofChange Rows.auditMatchesSpec) :=
 OpenClaim.holds_of_wide 3 Tryz.f3 rfl rfl rfl rfl rfl rfl rfl ⟨rfl, rfl, rfl, rfl, rfl⟩ rfl rfl rfl rfl rfl (by as_aux_lemma => kernel_rfl) Tryz.func3 closed
  (of_decide_eq_true (by as_aux_lemma => kernel_rfl)) (by unfold Func.isWrapper; first | (rw [if_pos (by decide +kernel)]; kernel_rfl) | (rw [if_neg (by decide +kernel)]; exact ⟨rfl, rfl⟩))
  (fun os started H enc _ => lifted os started H enc)
theorem proved : Rows.AuditMatchesSaid := over
end
end Go.Proofs.YtobgbcdgffgdhaaGreat
