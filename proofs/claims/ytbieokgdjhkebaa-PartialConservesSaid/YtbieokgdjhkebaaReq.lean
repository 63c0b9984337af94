/- Request: of, within, empty; Check, and the reference's. -/
import Derived.Test.YtbieokgdjhkebaaPlain
import Derived.Test.YtbieokgdjhkebaaTail
import Derived.LoopN
import Derived.Deep.DeepCutAuto
import Derived.Deep.QuietTactic
import Derived.Lib.MinMax
import Derived.LoopTactic
namespace Go.Proofs.Ytbieokgdjhkebaa
open Go Go.RowKit Go.Deep
set_option linter.unusedVariables false
set_option linter.unusedSimpArgs false
set_option maxRecDepth 100000

theorem two_second (w : World) (A : Obj) (cs : Array Value) (t : TypeId) : Blk ((w.alloc A).alloc (.cells cs t)) (w.heap.size + 1) t cs := by
  have := Blk.new (w.alloc A) t cs
  simpa using this
theorem rqz_cells : (#[.int .i64 0, .int .u64 0] : Array Value) = cellsRq rqZ := rfl
theorem below_two (w : World) (A B : Obj) : Below w.heap.size w ((w.alloc A).alloc B) := ((Below.refl _ _).alloc (Nat.le_refl _) _).alloc (by simp) _
theorem of_any (r : Rq) (x : Int) (w : World) :
    Calls Try.prog 31 #[.agg (cellsRq r), .int .u64 x] w fun e w' => e = .returned (.agg (cellsRq ⟨r.ix, x⟩)) ∧ Below w.heap.size w w' := by
  have HB : Hid (Blk ((w.alloc (.cells (cellsRq r) 29)).alloc (.cells (cellsRq rqZ) 29)) w.heap.size 29 (cellsRq r) ∧ Blk ((w.alloc (.cells (cellsRq r) 29)).alloc (.cells (cellsRq rqZ) 29)) (w.heap.size + 1) 29 (cellsRq rqZ)) := Lib.hid ⟨(Blk.new w _ _).alloc _, two_second w _ _ _⟩
  have HL : Hid (Below w.heap.size w ((w.alloc (.cells (cellsRq r) 29)).alloc (.cells (cellsRq rqZ) 29))) := Lib.hid (below_two _ _ _)
  go_enter Try.func31, Try.ntmps31
  go_upto_region 1 with (fail)
  simp only [rqz_cells]
  generalize (w.alloc (.cells (cellsRq r) 29)).alloc (.cells (cellsRq rqZ) 29) = W at *
  have x0 : W.cell? ⟨w.heap.size, 0, none⟩ = some (.int .i64 r.ix) := HB.out.1.cell 0
  go_wp2_with (first | (refine wpList_build_Rq rfl 29 _ rfl ⟨r.ix, x⟩ (by kernel_rfl) ?_) | (refine wpList_store_row rfl _ _ _ rfl (w.heap.size + 1) (cellsRq ⟨r.ix, x⟩) rfl rfl 29 _ HB.out.2 infoRq rfl (cellsRq_one _) ?_))
  exact bodyPost_ret (v := .agg (cellsRq ⟨r.ix, x⟩)) (results_cell_row (fn := Try.f31) rfl _ _ (w.heap.size + 1) 29 (cellsRq ⟨r.ix, x⟩) (0, 0) _ rfl (setRow_heap _ _ _ _ _ _ HB.out.2) Try.underlying29 rfl infoRq) rfl ⟨rfl, below_setRow HL.out (by omega) _⟩

theorem within_any (r : Rq) (n : Nat) (w : World) :
    Calls Try.prog 22 #[.agg (cellsRq r), .int .i64 n] w fun e w' => e = .returned (.bool (inB r n)) ∧ Below w.heap.size w w' := by
  have HB : Hid (Blk (w.alloc (.cells (cellsRq r) 29)) w.heap.size 29 (cellsRq r) ∧ Below w.heap.size w (w.alloc (.cells (cellsRq r) 29))) := Lib.hid ⟨Blk.new w _ _, (Below.refl _ _).alloc (Nat.le_refl _) _⟩
  have hx : Hid ((decide (0 ≤ r.ix) && decide (r.ix < (n : Int))) = inB r n) := Lib.hid (by rw [inB, Bool.decide_and])
  by_cases h1 : 0 ≤ r.ix
  · have d1 : decide (0 ≤ r.ix) = true := decide_eq_true h1
    obtain ⟨b, hb⟩ : ∃ b, decide (r.ix < (n : Int)) = b := ⟨_, rfl⟩
    have E : Hid (inB r n = b) := Lib.hid (by rw [← hx.out, d1, hb, Bool.true_and])
    clear hx
    go_enter Try.func22, Try.ntmps22
    go_upto_region 1 with (fail)
    generalize w.alloc (.cells (cellsRq r) 29) = W at *
    have x0 : W.cell? ⟨w.heap.size, 0, none⟩ = some (.int .i64 r.ix) := HB.out.1.cell 0
    go_wp2
    go_ret
    exact ⟨ret_bool E.out.symm, HB.out.2⟩
  · have d1 : decide (0 ≤ r.ix) = false := decide_eq_false h1
    have E : Hid (inB r n = false) := Lib.hid (by rw [← hx.out, d1, Bool.false_and])
    clear hx
    go_enter Try.func22, Try.ntmps22
    go_upto_region 1 with (fail)
    generalize w.alloc (.cells (cellsRq r) 29) = W at *
    have x0 : W.cell? ⟨w.heap.size, 0, none⟩ = some (.int .i64 r.ix) := HB.out.1.cell 0
    go_wp2
    go_ret
    exact ⟨ret_bool E.out.symm, HB.out.2⟩

theorem empty_any (r : Rq) (w : World) :
    Calls Try.prog 23 #[.agg (cellsRq r)] w fun e w' => e = .returned (.bool (decide (r.am = 0))) ∧ Below w.heap.size w w' := by
  have HK : Hid (Keeps w.heap.size w.heap.size 29 (cellsRq r) w (w.alloc (.cells (cellsRq r) 29))) := Lib.hid (Keeps.new (Below.refl _ _) (Nat.le_refl _))
  have E : Hid (decide (r = (⟨r.ix, 0⟩ : Rq)) = decide (r.am = 0)) := Lib.hid (by
    obtain ⟨i, a⟩ := r
    simp)
  obtain ⟨b, hb⟩ : ∃ b, decide (r.am = 0) = b := ⟨_, rfl⟩
  rw [hb] at E ⊢
  clear hb
  go_enter Try.func23, Try.ntmps23
  go_upto_region 1 with (fail)
  generalize w.alloc (.cells (cellsRq r) 29) = W at *
  refine wp_region_class (Keeps w.heap.size w.heap.size 29 (cellsRq r) w) (by kernel_rfl) (by kernel_rfl) HK.out.drew ?_
  refine q_load 29 _ w.heap.size 29 (cellsRq r) _ rfl rfl rfl (fun w' h => h.1) Try.underlying29 rfl infoRq ?_
  simp only [Act.put, List.setIfInBounds_toArray, List.set_cons_zero, List.set_cons_succ]
  refine q_load 29 _ w.heap.size 29 (cellsRq r) _ rfl rfl rfl (fun w' h => h.1) Try.underlying29 rfl infoRq ?_
  simp only [Act.put, List.setIfInBounds_toArray, List.set_cons_zero, List.set_cons_succ]
  refine q_call (.agg (cellsRq ⟨r.ix, 0⟩)) #[.agg (cellsRq r), .int .u64 0] (by kernel_rfl) (by kernel_rfl) Try.call31 (fun w' h => h.call (of_any r 0 w')) ?_
  simp only [Act.put, List.setIfInBounds_toArray, List.set_cons_zero, List.set_cons_succ]
  refine q_eqRq r ⟨r.ix, 0⟩ b rfl rfl rfl E.out ?_
  simp only [Act.put, List.setIfInBounds_toArray, List.set_cons_zero, List.set_cons_succ]
  iterate 1 (go_big_quiet_step ((intros; rfl)))
  refine wpQuiet_nil ?_
  intro w1 k1
  go_wp2
  go_ret
  exact ⟨rfl, k1.2.1⟩
set_option maxHeartbeats 1600000 in
theorem check_any (S : Nat → Prop) (a : Option Addr) (cp : Nat) (l : List Val) (r : Rq) (w : World) (h : Lst w S a l) :
    Calls Try.prog 10 #[.slice a l.length cp, .agg (cellsRq r)] w fun e w' => e = .returned (.int .i64 (chkP l r)) ∧ Below w.heap.size w w' := by
  have HK : Hid (Keeps w.heap.size w.heap.size 29 (cellsRq r) w (w.alloc (.cells (cellsRq r) 29))) := Lib.hid (Keeps.new (Below.refl _ _) (Nat.le_refl _))
  have HW := Lib.hid (fun w => within_any r l.length w)
  have HE := Lib.hid (fun w => empty_any r w)
  have HL := Lib.hid h
  obtain ⟨n, hn⟩ : ∃ n, l.length = n := ⟨_, rfl⟩
  rw [hn] at HW ⊢
  clear h
  cases hb : inB r n with
  | false =>
    have E : Hid (chkP l r = 7) := Lib.hid (by rw [chkP, hn, hb]; rfl)
    rw [hb] at HW
    clear hb hn HL
    go_enter Try.func10, Try.ntmps10
    go_upto_region 1 with (fail)
    generalize w.alloc (.cells (cellsRq r) 29) = W at *
    go_wp2_with (first | (refine wpList_load_row rfl 29 _ rfl w.heap.size rfl 29 _ (0, 0) _ HK.out.1 Try.underlying29 rfl infoRq ?_))
    refine (HK.out.call (HW.out _)).mono ?_
    rintro e w1 ⟨rfl, k1⟩
    have K1 := Lib.hid k1
    clear k1 HK
    go_wp2
    go_ret
    exact ⟨congrArg (fun x => Ending.returned (.int .i64 x)) E.out.symm, K1.out.2.1⟩
  | true =>
    rw [hb] at HW
    by_cases h0 : r.am = 0
    · have E : Hid (chkP l r = 3) := Lib.hid (by rw [chkP, hn, hb, if_neg (by simp), if_pos h0])
      rw [decide_eq_true h0] at HE
      clear hb hn HL h0
      go_enter Try.func10, Try.ntmps10
      go_upto_region 1 with (fail)
      generalize w.alloc (.cells (cellsRq r) 29) = W at *
      go_wp2_with (first | (refine wpList_load_row rfl 29 _ rfl w.heap.size rfl 29 _ (0, 0) _ HK.out.1 Try.underlying29 rfl infoRq ?_))
      refine (HK.out.call (HW.out _)).mono ?_
      rintro e w1 ⟨rfl, k1⟩
      have K1 := Lib.hid k1
      clear k1 HK
      go_wp2_with (first | (refine wpList_load_row rfl 29 _ rfl w.heap.size rfl 29 _ (0, 0) _ K1.out.1 Try.underlying29 rfl infoRq ?_))
      refine (K1.out.call (HE.out _)).mono ?_
      rintro e w2 ⟨rfl, k2⟩
      have K2 := Lib.hid k2
      clear k2 K1
      go_wp2
      go_ret
      exact ⟨congrArg (fun x => Ending.returned (.int .i64 x)) E.out.symm, K2.out.2.1⟩
    · rw [decide_eq_false h0] at HE
      obtain ⟨i, v, hi, hv⟩ := in_at (l := l) (r := r) (by rw [hn]; exact hb)
      have hil := (List.getElem?_eq_some_iff.1 hv).1
      have HV := Lib.hid hv
      have HX := Lib.hid hi
      have k1 : ¬ (i : Int) < 0 := by omega
      have k2 : ¬ (n : Int) ≤ (i : Int) := by omega
      have k3 : (i : Int) < (n : Int) := by omega
      have E0 : chkP l r = if v.st ≠ 2 then 8 else 0 := by rw [chkP, hn, hb, if_neg (by simp), if_neg h0, hi, Int.toNat_natCast, getD_of hv]
      by_cases hs : v.st = 2
      · have E : Hid (chkP l r = 0) := Lib.hid (by rw [E0, if_neg (by simp [hs])])
        have ds : (v.st != 2) = false := by simp [hs]
        clear hb hn h0 hi hv E0 hs
        go_enter Try.func10, Try.ntmps10
        go_upto_region 1 with (fail)
        generalize w.alloc (.cells (cellsRq r) 29) = W at *
        go_wp2_with (first | (refine wpList_load_row rfl 29 _ rfl w.heap.size rfl 29 _ (0, 0) _ HK.out.1 Try.underlying29 rfl infoRq ?_))
        refine (HK.out.call (HW.out _)).mono ?_
        rintro e w1 ⟨rfl, k1'⟩
        have K1 := Lib.hid k1'
        clear k1' HK
        go_wp2_with (first | (refine wpList_load_row rfl 29 _ rfl w.heap.size rfl 29 _ (0, 0) _ K1.out.1 Try.underlying29 rfl infoRq ?_))
        refine (K1.out.call (HE.out _)).mono ?_
        rintro e w2 ⟨rfl, k2'⟩
        have K2 := Lib.hid k2'
        clear k2' K1
        obtain ⟨b, off, rfl, hr⟩ := (HL.out.below K2.out.2.1).at HV.out
        have x1 : w2.cell? ⟨b, off + i * 7 + 1, none⟩ = some (.int .i64 v.st) := hr 1 _ rfl
        have x0 : w2.cell? ⟨w.heap.size, 0, none⟩ = some (.int .i64 (i : Int)) := (K2.out.1.cell 0).trans (by rw [← HX.out]; rfl)
        clear hr
        go_wp2
        go_ret
        exact ⟨congrArg (fun x => Ending.returned (.int .i64 x)) E.out.symm, K2.out.2.1⟩
      · have E : Hid (chkP l r = 8) := Lib.hid (by rw [E0, if_pos (by simpa using hs)])
        have ds : (v.st != 2) = true := by simpa using hs
        clear hb hn h0 hi hv E0 hs
        go_enter Try.func10, Try.ntmps10
        go_upto_region 1 with (fail)
        generalize w.alloc (.cells (cellsRq r) 29) = W at *
        go_wp2_with (first | (refine wpList_load_row rfl 29 _ rfl w.heap.size rfl 29 _ (0, 0) _ HK.out.1 Try.underlying29 rfl infoRq ?_))
        refine (HK.out.call (HW.out _)).mono ?_
        rintro e w1 ⟨rfl, k1'⟩
        have K1 := Lib.hid k1'
        clear k1' HK
        go_wp2_with (first | (refine wpList_load_row rfl 29 _ rfl w.heap.size rfl 29 _ (0, 0) _ K1.out.1 Try.underlying29 rfl infoRq ?_))
        refine (K1.out.call (HE.out _)).mono ?_
        rintro e w2 ⟨rfl, k2'⟩
        have K2 := Lib.hid k2'
        clear k2' K1
        obtain ⟨b, off, rfl, hr⟩ := (HL.out.below K2.out.2.1).at HV.out
        have x1 : w2.cell? ⟨b, off + i * 7 + 1, none⟩ = some (.int .i64 v.st) := hr 1 _ rfl
        have x0 : w2.cell? ⟨w.heap.size, 0, none⟩ = some (.int .i64 (i : Int)) := (K2.out.1.cell 0).trans (by rw [← HX.out]; rfl)
        clear hr
        go_wp2
        go_ret
        exact ⟨congrArg (fun x => Ending.returned (.int .i64 x)) E.out.symm, K2.out.2.1⟩
set_option maxHeartbeats 1600000 in
theorem refchk_any (S : Nat → Prop) (a : Option Addr) (cp : Nat) (l : List Val) (r : Rq) (w : World) (h : Lst w S a l) :
    Calls Try.prog 11 #[.slice a l.length cp, .agg (cellsRq r)] w fun e w' => e = .returned (.int .i64 (chkP l r)) ∧ Below w.heap.size w w' := by
  have HK : Hid (Keeps w.heap.size w.heap.size 25 (cellsRq r) w (w.alloc (.cells (cellsRq r) 25))) := Lib.hid (Keeps.new (Below.refl _ _) (Nat.le_refl _))
  have HL := Lib.hid (h.below HK.out.2.1)
  obtain ⟨n, hn⟩ : ∃ n, l.length = n := ⟨_, rfl⟩
  rw [hn]
  clear h
  by_cases h1 : r.ix < 0
  · have E : Hid (chkP l r = 7) := Lib.hid (by rw [chkP, inB, decide_eq_false (by omega)]; rfl)
    have d1 : decide (r.ix < 0) = true := decide_eq_true h1
    clear hn HL h1
    go_enter Try.func11, Try.ntmps11
    go_upto_region 1 with (fail)
    generalize w.alloc (.cells (cellsRq r) 25) = W at *
    have x0 : W.cell? ⟨w.heap.size, 0, none⟩ = some (.int .i64 r.ix) := HK.out.1.cell 0
    go_wp2
    go_ret
    exact ⟨congrArg (fun x => Ending.returned (.int .i64 x)) E.out.symm, HK.out.2.1⟩
  · have d1 : decide (r.ix < 0) = false := decide_eq_false h1
    by_cases h2 : (n : Int) ≤ r.ix
    · have E : Hid (chkP l r = 7) := Lib.hid (by rw [chkP, hn, inB, decide_eq_false (by omega)]; rfl)
      have d2 : decide ((n : Int) ≤ r.ix) = true := decide_eq_true h2
      clear hn HL h1 h2
      go_enter Try.func11, Try.ntmps11
      go_upto_region 1 with (fail)
      generalize w.alloc (.cells (cellsRq r) 25) = W at *
      have x0 : W.cell? ⟨w.heap.size, 0, none⟩ = some (.int .i64 r.ix) := HK.out.1.cell 0
      go_wp2
      go_ret
      exact ⟨congrArg (fun x => Ending.returned (.int .i64 x)) E.out.symm, HK.out.2.1⟩
    · have hb : inB r n = true := decide_eq_true (by omega)
      have d2 : decide ((n : Int) ≤ r.ix) = false := decide_eq_false h2
      by_cases h0 : r.am = 0
      · have E : Hid (chkP l r = 3) := Lib.hid (by rw [chkP, hn, hb, if_neg (by simp), if_pos h0])
        have d3 : (r.am == 0) = true := by simpa using h0
        clear hn HL h1 h2 hb h0
        go_enter Try.func11, Try.ntmps11
        go_upto_region 1 with (fail)
        generalize w.alloc (.cells (cellsRq r) 25) = W at *
        have x0 : W.cell? ⟨w.heap.size, 0, none⟩ = some (.int .i64 r.ix) := HK.out.1.cell 0
        have x1 : W.cell? ⟨w.heap.size, 1, none⟩ = some (.int .u64 r.am) := HK.out.1.cell 1
        go_wp2
        go_ret
        exact ⟨congrArg (fun x => Ending.returned (.int .i64 x)) E.out.symm, HK.out.2.1⟩
      · have d3 : (r.am == 0) = false := by simpa using h0
        obtain ⟨i, v, hi, hv⟩ := in_at (l := l) (r := r) (by rw [hn]; exact hb)
        have hil := (List.getElem?_eq_some_iff.1 hv).1
        have k1 : ¬ (i : Int) < 0 := by omega
        have k2 : ¬ (n : Int) ≤ (i : Int) := by omega
        have k3 : (i : Int) < (n : Int) := by omega
        have E0 : chkP l r = if v.st ≠ 2 then 8 else 0 := by rw [chkP, hn, hb, if_neg (by simp), if_neg h0, hi, Int.toNat_natCast, getD_of hv]
        rw [hi] at d1 d2
        obtain ⟨b, off, rfl, hr⟩ := HL.out.at hv
        have y0 : (w.alloc (.cells (cellsRq r) 25)).cell? ⟨b, off + i * 7 + 1, none⟩ = some (.int .i64 v.st) := hr 1 _ rfl
        have HX := Lib.hid hi
        by_cases hs : v.st = 2
        · have E : Hid (chkP l r = 0) := Lib.hid (by rw [E0, if_neg (by simp [hs])])
          have ds : (v.st != 2) = false := by simp [hs]
          clear hn HL h1 h2 hb h0 hi hv E0 hs hr
          go_enter Try.func11, Try.ntmps11
          go_upto_region 1 with (fail)
          generalize w.alloc (.cells (cellsRq r) 25) = W at *
          have x0 : W.cell? ⟨w.heap.size, 0, none⟩ = some (.int .i64 (i : Int)) := (HK.out.1.cell 0).trans (by rw [← HX.out]; rfl)
          have x1 : W.cell? ⟨w.heap.size, 1, none⟩ = some (.int .u64 r.am) := HK.out.1.cell 1
          go_wp2
          go_ret
          exact ⟨congrArg (fun x => Ending.returned (.int .i64 x)) E.out.symm, HK.out.2.1⟩
        · have E : Hid (chkP l r = 8) := Lib.hid (by rw [E0, if_pos (by simpa using hs)])
          have ds : (v.st != 2) = true := by simpa using hs
          clear hn HL h1 h2 hb h0 hi hv E0 hs hr
          go_enter Try.func11, Try.ntmps11
          go_upto_region 1 with (fail)
          generalize w.alloc (.cells (cellsRq r) 25) = W at *
          have x0 : W.cell? ⟨w.heap.size, 0, none⟩ = some (.int .i64 (i : Int)) := (HK.out.1.cell 0).trans (by rw [← HX.out]; rfl)
          have x1 : W.cell? ⟨w.heap.size, 1, none⟩ = some (.int .u64 r.am) := HK.out.1.cell 1
          go_wp2
          go_ret
          exact ⟨congrArg (fun x => Ending.returned (.int .i64 x)) E.out.symm, HK.out.2.1⟩
end Go.Proofs.Ytbieokgdjhkebaa
