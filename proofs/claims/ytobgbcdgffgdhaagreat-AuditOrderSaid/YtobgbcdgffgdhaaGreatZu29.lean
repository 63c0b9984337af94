/- The Go function egress/egresslaw24.AuditOrder returns true for every input, and leaves its arguments as they were. Conditions: none but the statement's own. -/
import Derived.Test.YtobgbcdgffgdhaaGreatZu02
import Derived.Test.YtobgbcdgffgdhaaGreatZu25
import Derived.ShutString
namespace Go.Proofs.YtobgbcdgffgdhaaGreat
set_option linter.unusedVariables false
set_option linter.unusedSimpArgs false
section
open Go Go.RowKit Go.Deep
set_option maxRecDepth 100000
set_option maxHeartbeats 6400000 in
theorem walk_AuditOrder (a0 : Sx) (a1 : Nat → Int) (w : World) (w0 : FitsSx w a0) (w1 : Fits a1) :
  CallB 7 #[.agg (cellsSx a0), .agg (cellsOf a1)] w (.bool true) := by
 obtain ⟨V, pd, F, W, hs⟩ := w0
 have T0 := Lib.hid (SC.new w a0 a1)
 have HV := Lib.hid alive24
 have HCK := Lib.hid (refCheck_any a1)
 have HFW := Lib.hid (few_call hs)
 have HSX := Lib.hid (And.intro hs w1)
 clear hs w1
 by_cases hc : chk a1 = 0
 ·have dc : (chk a1 != 0) = false := by simp [hc]
  have HC := Lib.hid hc
  rw [hc] at HCK
  clear hc dc
  cases hq : fewS a0 V with
  | true =>
   have HAU := Lib.hid (au_of HSX.out.1 HSX.out.2 HC.out hq)
   have HQ := Lib.hid hq
   rw [hq] at HFW
   clear hq
   go_enter Tryz.func7, Tryz.ntmps7
   go_upto_region 1 with (fail)
   generalize (w.alloc (.cells (cellsSx a0) 28)).alloc (.cells (cellsOf a1) 30) = W0 at *
   go_wp2_with (first | (refine wlr 30 (w.heap.size + 1) T0.out.2.1 Tryz.underlying30 infoCf ?_))
   refine (HCK.out _).mono ?_
   rintro e z1 ⟨rfl, hb⟩
   have T1 := Lib.hid (T0.out.next hb)
   clear hb T0
   go_wp2_with (first | (refine wpList_load_rowG rfl 28 _ rfl w.heap.size rfl 28 _ (0, 0) _ T1.out.1 Tryz.underlying28 rfl infoSx ?_))
   refine (state_any a0 z1).mono ?_
   rintro e z2 ⟨rfl, hb⟩
   have T2 := Lib.hid (T1.out.next hb)
   clear hb T1
   go_wp2_with fail
   refine (HFW.out z2 T2.out.2.2).mono ?_
   rintro e z3 ⟨rfl, hb⟩
   have T3 := Lib.hid (T2.out.next hb)
   clear hb T2
   go_wp2_with (first | (refine wlr 28 w.heap.size T3.out.1 Tryz.underlying28 infoSx ?_) | (refine wlr 30 (w.heap.size + 1) T3.out.2.1 Tryz.underlying30 infoCf ?_))
   have HAL := Lib.hid (All_any z3 (HAU.out.below T3.out.2.2))
   generalize hL : violK a1 (anOf a0 V pd F W) 12 = L at *
   have HM : Hid ((∀ x ∈ L, 1 ≤ x ∧ x ≤ 12) ∧ L.Pairwise (· < ·) ∧ L.length ≤ 12) := Lib.hid (by
    rw [← hL]
    exact ⟨fun x hx => by have := viol_mem _ _ 12 x hx; omega, viol_up _ _ 12, viol_len _ _ 12⟩)
   clear hL
   refine HAL.out.mono ?_
   rintro e z4 ⟨v, rfl, ho, hb⟩
   obtain ⟨pa, ca, rfl, _, _, _, hi⟩ := ints_of_owns (S := fun _ => False) ho fun _ _ h => h
   have HI := Lib.hid hi
   have T4 := Lib.hid (T3.out.next hb)
   clear ho hb hi T3 HAL
   obtain ⟨n, hn⟩ := named (L.length)
   have HN := Lib.hid hn
   have hn12 : n ≤ 12 := by rw [← hn]; exact HM.out.2.2
   rw [hn]
   clear hn
   obtain ⟨Y, hY⟩ : ∃ Y, Y = z4 := ⟨_, rfl⟩
   subst hY
   go_wp2_with fail
   go_loopw [5, 22] (fun s5 s22 wr => ∃ (k : Nat) (t : Int), k ≤ n ∧ s22 = .int .i64 k ∧ s5 = .int .i64 t ∧ Hid (∀ x, L[k]? = some x → t < x) ∧ Hid (Below Y.heap.size Y wr) ∧ Hid (Below w.heap.size w wr)) (fun _ s22 _ => n - (intOf s22).toNat)
   case atStart => exact ⟨0, 0, by omega, rfl, rfl, Lib.hid fun x hx => by have := HM.out.1 x (List.mem_of_getElem? hx); omega, Lib.hid (Below.refl _ _), Lib.hid T4.out.2.2⟩
   case round =>
    obtain ⟨k, t, hk, rfl, rfl, HT, BY, BW⟩ := hrel
    by_cases hlt : k < n
    ·obtain ⟨y, hy⟩ : ∃ y, L[k]? = some y := ⟨_, List.getElem?_eq_getElem (by rw [HN.out]; exact hlt)⟩
     obtain ⟨b, off, rfl, _, hbl, hcc⟩ := HI.out (by rw [HN.out]; omega)
     have hcell : wr.cell? ⟨b, off + k, none⟩ = some (.int .i64 y) := by
      rw [BY.out.cell (p := ⟨b, off + k, none⟩) hbl, hcc k (by rw [HN.out]; exact hlt), List.getD_eq_getElem?_getD, hy]
      rfl
     have hy1 := HM.out.1 y (List.mem_of_getElem? hy)
     have hty := HT.out y hy
     have d1 : decide (y ≤ t) = false := decide_eq_false (by omega)
     have HNX : Hid (∀ x, L[k + 1]? = some x → y < x) := Lib.hid fun x hx => by
      obtain ⟨l1, e1⟩ := List.getElem?_eq_some_iff.1 hy
      obtain ⟨l2, e2⟩ := List.getElem?_eq_some_iff.1 hx
      have := List.pairwise_iff_getElem.1 HM.out.2.1 k (k + 1) l1 l2 (by omega)
      rw [e1, e2] at this
      exact this
     have HNM := Lib.hid (Name_any y wr (wf_i64e (by omega) (by omega)))
     have hne : ((nameB y).toList == (⟨#[]⟩ : ByteArray).toList) = false ∧ ((nameB y).toList == []) = false := by
      have : y = 1 ∨ y = 2 ∨ y = 3 ∨ y = 4 ∨ y = 5 ∨ y = 6 ∨ y = 7 ∨ y = 8 ∨ y = 9 ∨ y = 10 ∨ y = 11 ∨ y = 12 := by omega
      rcases this with rfl | rfl | rfl | rfl | rfl | rfl | rfl | rfl | rfl | rfl | rfl | rfl <;> (simp only [ByteArray.toList_eq]; decide)
     generalize nameB y = nm at *
     obtain ⟨dn1, dn2⟩ := hne
     clear hcc hy hy1 hty hbl HT
     go_wp2_with fail
     refine HNM.out.mono ?_
     rintro e z5 ⟨rfl, hb⟩
     have B5 : Hid (Below Y.heap.size Y z5) := Lib.hid (BY.out.trans (hb.mono BY.out.size))
     have BW5 : Hid (Below w.heap.size w z5) := Lib.hid (BW.out.trans (hb.mono BW.out.size))
     clear hb HNM BY BW hcell
     go_wp2_with fail
     go_roundw
     case rel => exact ⟨k + 1, y, by omega, by go_num, rfl, HNX, B5, BW5⟩
     case measure => simp [intOf]; omega
    ·obtain rfl : k = n := by omega
     clear hlt HT
     have hlt : ¬ k < k := by omega
     go_wp2_with fail
     refine (HV.out _).mono ?_
     rintro e z9 ⟨rfl, hb⟩
     have B9 : Hid (Below w.heap.size w z9) := Lib.hid (BW.out.trans (hb.mono BW.out.size))
     clear hb
     go_wp2_with fail
     go_ret
     exact ⟨rfl, B9.out⟩
  | false =>
   rw [hq] at HFW
   clear hq
   go_enter Tryz.func7, Tryz.ntmps7
   go_upto_region 1 with (fail)
   generalize (w.alloc (.cells (cellsSx a0) 28)).alloc (.cells (cellsOf a1) 30) = W0 at *
   go_wp2_with (first | (refine wlr 30 (w.heap.size + 1) T0.out.2.1 Tryz.underlying30 infoCf ?_))
   refine (HCK.out _).mono ?_
   rintro e z1 ⟨rfl, hb⟩
   have T1 := Lib.hid (T0.out.next hb)
   clear hb T0
   go_wp2_with (first | (refine wpList_load_rowG rfl 28 _ rfl w.heap.size rfl 28 _ (0, 0) _ T1.out.1 Tryz.underlying28 rfl infoSx ?_))
   refine (state_any a0 z1).mono ?_
   rintro e z2 ⟨rfl, hb⟩
   have T2 := Lib.hid (T1.out.next hb)
   clear hb T1
   go_wp2_with fail
   refine (HFW.out z2 T2.out.2.2).mono ?_
   rintro e z3 ⟨rfl, hb⟩
   have T3 := Lib.hid (T2.out.next hb)
   clear hb T2
   go_wp2_with fail
   refine (HV.out _).mono ?_
   rintro e z9 ⟨rfl, hb⟩
   have B9 : Hid (Below w.heap.size w z9) := Lib.hid (T3.out.2.2.trans (hb.mono T3.out.2.2.size))
   clear hb
   go_wp2_with fail
   go_ret
   exact ⟨rfl, B9.out⟩
 ·have dc : (chk a1 != 0) = true := by simpa using hc
  generalize chk a1 = ck at *
  clear hc
  go_enter Tryz.func7, Tryz.ntmps7
  go_upto_region 1 with (fail)
  generalize (w.alloc (.cells (cellsSx a0) 28)).alloc (.cells (cellsOf a1) 30) = W0 at *
  go_wp2_with (first | (refine wlr 30 (w.heap.size + 1) T0.out.2.1 Tryz.underlying30 infoCf ?_))
  refine (HCK.out _).mono ?_
  rintro e z1 ⟨rfl, hb⟩
  have T1 := Lib.hid (T0.out.next hb)
  clear hb T0
  go_wp2_with fail
  refine (HV.out _).mono ?_
  rintro e z9 ⟨rfl, hb⟩
  have B9 : Hid (Below w.heap.size w z9) := Lib.hid (T1.out.2.2.trans (hb.mono T1.out.2.2.size))
  clear hb
  go_wp2_with fail
  go_ret
  exact ⟨rfl, B9.out⟩
end
section
open Go Go.ChangeShapes Go.WideShapes Go.ChangeAt Go.RowKit
open Go.ChangeMaps (open_string shut_string)
theorem own : ownKnob Tryz.prog.godebug = none := bigOwn
theorem laidOut : laidOutB Tryz.prog = true := bigLaid
set_option maxRecDepth 100000 in
theorem lifted (os : Os) (started : os.Started) (H : Type) (enc : TypeId × Value → H) :
  ReturnsInHanded {} Tryz.checked os 7 .any (Rows.auditOrderSpec.pre6 enc Tryz.prog Tryz.f7 Rows.auditOrderRow.domain false) (Rows.auditOrderSpec.post enc Tryz.prog Tryz.f7 false true false false) := by
 refine returnsInHanded_of_change (C := Tryz.checked) own started (by as_aux_lemma => kernel_rfl) Tryz.func7
  (ChangeSpec.witness6 (enc := enc) (C := Tryz.checked) false ⟨#[], #[.agg (cellsSx (⟨0, 0, none, 0, 0, 0, 0, 0, 0, none, 0, 0, none, 0, 0, none, 0, 0, none, 0, 0, none, 0, 0, 0, 0, 0⟩)), .agg (cellsOf (fun _ => 0))], []⟩ 8 (by as_aux_lemma => kernel_rfl) (by as_aux_lemma => kernel_rfl) (by as_aux_lemma => kernel_rfl) (by as_aux_lemma => kernel_rfl)) ?_
 intro W base args ds gs before hval0 hW hcnd hsz
 have hval : ∀ (j : Nat) t v, Tryz.f7.params[j]? = some t → args[j]? = some v → Value.okWide Tryz.prog W .any base t v := hval0
 have hW' := hW
 obtain ⟨p, q, hA0, hV, rfl, hfz, hnd⟩ := hW
 have hA : DataW.TrodAll enc Tryz.prog W 0 (fun _ => true) true Tryz.f7.params.toList args.toList ds p := hA0
 rw [Tryz.params7] at hA hval
 obtain ⟨v0, vs0, d0, ds0, p0, q0, hargs, rfl, rfl, h0, r0⟩ := trodAll_cons hA
 obtain ⟨v1, vs1, d1, ds1, p1, q1, rfl, rfl, rfl, h1, r1⟩ := trodAll_cons r0
 obtain ⟨rfl, rfl, rfl⟩ := trodAll_nil r1
 obtain rfl : args = #[v0, v1] := by cases args; simp_all
 obtain ⟨rfl, rfl⟩ := trodVars_none hV
 obtain ⟨a0, rfl, w0⟩ := open_T28 (hval 0 28 v0 rfl rfl) h0
 have k0 := h0
 have lt0 : ∀ x ∈ p0, x.block < W.heap.size := by obtain ⟨m, hm⟩ := k0; exact DataW.trod_lt m _ _ _ hm
 obtain ⟨a1, rfl, w1⟩ := open_T30 (hval 1 30 v1 rfl rfl) h1
 have k1 := h1
 have lt1 : ∀ x ∈ p1, x.block < W.heap.size := by obtain ⟨m, hm⟩ := k1; exact DataW.trod_lt m _ _ _ hm
 clear hA0 hval0
 refine (walk_AuditOrder a0 a1 W w0 w1).mono fun e W' ⟨he, bel⟩ => ?_
 subst he
 exact ⟨_, rfl, _, _, _, [], _, [], hW', trodAll_mk1 (shut_bool Tryz.underlying4 _), (trodAll_cons_mk (Below.trod laidOut (by as_aux_lemma => kernel_rfl) (of_decide_eq_true (by as_aux_lemma => kernel_rfl)) k0 bel lt0) (trodAll_cons_mk (Below.trod laidOut (by as_aux_lemma => kernel_rfl) (of_decide_eq_true (by as_aux_lemma => kernel_rfl)) k1 bel lt1) trodAll_mk0)), rfl, bel.frame _, fun h => by cases h⟩
theorem and_mk {a b : Bool} (ha : a = true) (hb : b = true) : (a && b) = true := by rw [ha, hb]; rfl
set_option maxHeartbeats 6400000 in
theorem closed : joinedFacts Tryz.prog 7 Tryz.f7 Rows.auditOrderSpec Rows.auditOrderRow = true := by
 unfold joinedFacts
 exact (and_mk (and_mk (and_mk (and_mk (and_mk (and_mk (and_mk (and_mk (and_mk (and_mk (and_mk (and_mk (and_mk (and_mk (and_mk (and_mk (and_mk (and_mk (and_mk (and_mk (and_mk (and_mk (and_mk (and_mk (and_mk (and_mk (and_mk (and_mk (and_mk (and_mk (and_mk (by as_aux_lemma => kernel_rfl) bigLaid) bigMaps) (by as_aux_lemma => kernel_rfl)) (by as_aux_lemma => kernel_rfl)) (by as_aux_lemma => kernel_rfl)) bigStops) (by as_aux_lemma => kernel_rfl)) bigKnobs) (by as_aux_lemma => kernel_rfl)) (by as_aux_lemma => kernel_rfl)) (by as_aux_lemma => kernel_rfl)) (by as_aux_lemma => kernel_rfl)) (by as_aux_lemma => kernel_rfl)) (by as_aux_lemma => kernel_rfl)) (by as_aux_lemma => kernel_rfl)) (by as_aux_lemma => kernel_rfl)) (by as_aux_lemma => kernel_rfl)) (by as_aux_lemma => kernel_rfl)) (by as_aux_lemma => kernel_rfl)) (by as_aux_lemma => kernel_rfl)) (by as_aux_lemma => kernel_rfl)) bigKeys) (by as_aux_lemma => kernel_rfl)) bigHeard) bigEnter) bigLift) bigMake) (by as_aux_lemma => kernel_rfl)) (by as_aux_lemma => kernel_rfl)) (by as_aux_lemma => kernel_rfl)) (by as_aux_lemma => kernel_rfl))
set_option maxHeartbeats 6400000 in
theorem over : Rows.auditOrderRow.holds Tryz.pinned (OpenSpec.ofChange Rows.auditOrderSpec) :=
 OpenClaim.holds_of_wide 7 Tryz.f7 rfl rfl rfl rfl rfl rfl rfl ⟨rfl, rfl, rfl, rfl, rfl⟩ rfl rfl rfl rfl rfl (by as_aux_lemma => kernel_rfl) Tryz.func7 closed
  (of_decide_eq_true (by as_aux_lemma => kernel_rfl)) (by unfold Func.isWrapper; first | (rw [if_pos (by decide +kernel)]; kernel_rfl) | (rw [if_neg (by decide +kernel)]; exact ⟨rfl, rfl⟩))
  (fun os started H enc _ => lifted os started H enc)
theorem proved : Rows.AuditOrderSaid := over
end
end Go.Proofs.YtobgbcdgffgdhaaGreat
