/- The walk of MergeChains (written by mkchains.py). -/
import Derived.Test.YtnaheindlkehhaaBox
import Derived.Deep.CutRange
namespace Go.Proofs.Ytnaheindlkehhaa
open Go Go.RowKit Go.Deep
set_option linter.unusedVariables false
set_option linter.unusedSimpArgs false
set_option maxRecDepth 100000

theorem run_alloc_val (w : World) : (Instr.alloc 24 true (.tuple #[])).run Try.prog w = .ok (.pointer (some ⟨w.heap.size, 0, none⟩)) (w.alloc (.cells (cellsV val0) 24)) := by
  obtain ⟨i, hi, hz, hs, hby⟩ := val_app
  simp [Instr.alloc, sizeOf, zeroValue, typeInfo, hi, hz, hs, newRow, go_sem, Value.cells]
theorem wp_alloc_val {o : Oper} {a : Act} {w : World} {K : Act → World → Prop} {Q : Exit → Act → World → Prop} (ho : o.op = .alloc 24)
    (h : K (a.put o.dst (.pointer (some ⟨w.heap.size, 0, none⟩))) (w.alloc (.cells (cellsV val0) 24))) : o.wp Try.prog a w K Q := by
  unfold Oper.wp execOp
  simp only [ho, Sem.run_bind, run_alloc_val w, Result.andThen_ok, Sem.run_pure]
  exact h
set_option maxHeartbeats 800000 in
theorem bail_MergeChains (a0 : Option Addr) (len0 cap0 : Nat) (a1 : Int × Int) (a2 : Nat → Int) (w : World) (h : chk a2 ≠ 0 ∨ 60 < len0) :
    Calls Try.prog 8 #[.slice a0 len0 cap0, .agg (cellsP a1), .agg (cellsOf a2)] w fun e w' => e = .returned (.bool true) ∧ Below w.heap.size w w' := by
  have T0 := Lib.hid (PBox.new w a1 a2)
  have HK := Lib.hid (refCheck_any a2)
  have HV := Lib.hid alive_any
  by_cases hc : chk a2 = 0
  · rw [hc] at HK
    have d1 : decide ((60 : Int) < (len0 : Int)) = true := decide_eq_true (by omega)
    clear h hc
    go_enter Try.func8, Try.ntmps8
    go_upto_region 1 with (fail)
    generalize (w.alloc (.cells (cellsP a1) 37)).alloc (.cells (cellsOf a2) 26) = W at *
    go_wp2_with (first | (refine wpList_load_row rfl 26 _ rfl (w.heap.size + 1) rfl 26 _ (0, 0) _ T0.out.2.1 Try.underlying26 rfl info24 ?_))
    refine (HK.out _).mono ?_
    rintro e w1 ⟨rfl, b1⟩
    have T1 := Lib.hid (T0.out.next b1)
    clear b1 T0 HK
    go_wp2_with fail
    refine (HV.out _).mono ?_
    rintro e w2 ⟨rfl, b2⟩
    have T2 := Lib.hid (T1.out.next b2)
    clear b2 T1
    go_wp2
    go_ret
    exact ⟨rfl, T2.out.2.2⟩
  · have hn : (chk a2 != 0) = true := by simpa using hc
    generalize chk a2 = x at *
    clear hc h
    go_enter Try.func8, Try.ntmps8
    go_upto_region 1 with (fail)
    generalize (w.alloc (.cells (cellsP a1) 37)).alloc (.cells (cellsOf a2) 26) = W at *
    go_wp2_with (first | (refine wpList_load_row rfl 26 _ rfl (w.heap.size + 1) rfl 26 _ (0, 0) _ T0.out.2.1 Try.underlying26 rfl info24 ?_))
    refine (HK.out _).mono ?_
    rintro e w1 ⟨rfl, b1⟩
    have T1 := Lib.hid (T0.out.next b1)
    clear b1 T0 HK
    go_wp2_with fail
    refine (HV.out _).mono ?_
    rintro e w2 ⟨rfl, b2⟩
    have T2 := Lib.hid (T1.out.next b2)
    clear b2 T1
    go_wp2
    go_ret
    exact ⟨rfl, T2.out.2.2⟩
set_option maxHeartbeats 3200000 in
theorem err_MergeChains (a0 : Option Addr) (cap0 : Nat) (l : List Val) (a1 : Int × Int) (a2 : Nat → Int) (w : World) (hc : chk a2 = 0) (hl : l.length ≤ 60) (hf : ∀ v ∈ l, FitsV v) (hL : Lst w (fun _ => False) a0 l) (hr : reqM l a1 (a2 6) ≠ 0) :
    Calls Try.prog 8 #[.slice a0 l.length cap0, .agg (cellsP a1), .agg (cellsOf a2)] w fun e w' => e = .returned (.bool true) ∧ Below w.heap.size w w' := by
  have HK := Lib.hid (refCheck_any a2)
  have HV := Lib.hid alive_any
  rw [hc] at HK
  have d1 : decide ((60 : Int) < (l.length : Int)) = false := decide_eq_false (by omega)
  obtain ⟨p1, p2⟩ := a1
  have T0 := Lib.hid (PBox.new w (p1, p2) a2)
  have HB := Lib.hid (fun (w : World) (h : Lst w (fun _ => False) a0 l) => refreq_any (fun _ => False) a0 l cap0 (p1, p2) a2 w h hf)
  generalize reqM l (p1, p2) (a2 6) = r at *
  simp only at HB
  have q : (r != 0) = true := by simpa using hr
  have HL0 := Lib.hid hL
  obtain ⟨n, hn⟩ : ∃ n, l.length = n := ⟨_, rfl⟩
  rw [hn] at HB d1 ⊢
  clear hc hf hL hn hl hr
  go_enter Try.func8, Try.ntmps8
  go_upto_region 1 with (fail)
  generalize (w.alloc (.cells (cellsP (p1, p2)) 37)).alloc (.cells (cellsOf a2) 26) = W at *
  go_wp2_with (first | (refine wpList_load_row rfl 26 _ rfl (w.heap.size + 1) rfl 26 _ (0, 0) _ T0.out.2.1 Try.underlying26 rfl info24 ?_))
  refine (HK.out _).mono ?_
  rintro e w1 ⟨rfl, b1⟩
  have T1 := Lib.hid (T0.out.next b1)
  clear b1 T0 HK
  have x0 : w1.cell? ⟨w.heap.size, 0, none⟩ = some (.int .i64 p1) := T1.out.1.cell 0
  have x1 : w1.cell? ⟨w.heap.size, 1, none⟩ = some (.int .i64 p2) := T1.out.1.cell 1
  go_wp2_with (first | (go_skip) | (refine isload 26 _ (by with_reducible rfl) ?_; refine wpList_load_rowH 26 _ rfl (w.heap.size + 1) rfl rfl 26 (cellsOf a2) (0, 0) _ T1.out.2.1 Try.underlying26 rfl info24 ?_))
  refine (HB.out w1 (HL0.out.below T1.out.2.2)).mono ?_
  rintro e w2 ⟨rfl, b2⟩
  have T2 := Lib.hid (T1.out.next b2)
  clear b2 T1 x0 x1 HB
  go_wp2_with fail
  refine (HV.out _).mono ?_
  rintro e w3 ⟨rfl, b3⟩
  have T3 := Lib.hid (T2.out.next b3)
  clear b3 T2
  go_wp2
  go_ret
  exact ⟨rfl, T3.out.2.2⟩
set_option maxHeartbeats 3200000 in
theorem good_MergeChains (a0 : Option Addr) (cap0 : Nat) (l : List Val) (a1 : Int × Int) (a2 : Nat → Int) (w : World) (hc : chk a2 = 0) (hl : l.length ≤ 60) (hf : ∀ v ∈ l, FitsV v) (hL : Lst w (fun _ => False) a0 l) (i j : Nat) (s d : Val) (e : a1 = ((i : Int), (j : Int))) (hne : i ≠ j) (hi : l[i]? = some s) (hj : l[j]? = some d) (hk : chkM s d (a2 6) = 0) :
    Calls Try.prog 8 #[.slice a0 l.length cap0, .agg (cellsP a1), .agg (cellsOf a2)] w fun e w' => e = .returned (.bool true) ∧ Below w.heap.size w w' := by
  have HK := Lib.hid (refCheck_any a2)
  have HV := Lib.hid alive_any
  rw [hc] at HK
  have d1 : decide ((60 : Int) < (l.length : Int)) = false := decide_eq_false (by omega)
  subst e
  have T0 := Lib.hid (PBox.new w ((i : Int), (j : Int)) a2)
  have hs := hf s (List.mem_of_getElem? hi)
  have hd := hf d (List.mem_of_getElem? hj)
  have HB := Lib.hid (fun (w : World) (h : Lst w (fun _ => False) a0 l) => refreq_any (fun _ => False) a0 l cap0 ((i : Int), (j : Int)) a2 w h hf)
  rw [req_at (a2 6) hi hj, if_neg hne, hk] at HB
  simp only at HB
  have HA := Lib.hid (fun w => apply_ok s d a2 w hs hd hk)
  have hj' : (l.set i (mvS s))[j]? = some d := by rw [List.getElem?_set_ne hne]; exact hj
  have HP1 := Lib.hid (fun (w : World) (h : Lst w (fun _ => False) a0 l) => put_any (fun _ => False) a0 cap0 i s (mvS s) l w h (by omega) hi)
  have HP2 := Lib.hid (fun (a : Option Addr) (cp : Nat) (w : World) (h : Lst w (fun _ => False) a (l.set i (mvS s))) => put_any (fun _ => False) a cp j d (mvD s d) (l.set i (mvS s)) w h (by rw [List.length_set]; omega) hj')
  rw [show (l.set i (mvS s)).length = l.length from List.length_set] at HP2
  obtain ⟨m, hm⟩ : ∃ m, (l.set i (mvS s)).set j (mvD s d) = m := ⟨_, rfl⟩
  have mi : m[i]? = some (mvS s) := by rw [← hm, mv_get hne hi hj, if_neg hne, if_pos rfl]
  have mj : m[j]? = some (mvD s d) := by rw [← hm, mv_get hne hi hj, if_pos rfl]
  have hml : m.length = l.length := by rw [← hm]; simp
  have hmf : ∀ v ∈ m, FitsV v := by rw [← hm]; intro v hv; obtain ⟨k, hk'⟩ := List.getElem?_of_mem hv; rw [mv_get hne hi hj] at hk'; have hfm := fits_mv hs hd hk; split at hk'; (injection hk' with hk'; subst hk'; exact hfm.2); split at hk'; (injection hk' with hk'; subst hk'; exact hfm.1); exact hf v (List.mem_of_getElem? hk')
  rw [hm] at HP2
  have HC := Lib.hid (fun (a : Option Addr) (cp : Nat) (w : World) (h : Lst w (fun _ => False) a m) => request_any (fun _ => False) a m cp ((i : Int), (j : Int)) a2 w h hmf)
  have HD := Lib.hid (fun (a : Option Addr) (cp : Nat) (w : World) (h : Lst w (fun _ => False) a m) => request_any (fun _ => False) a m cp ((j : Int), (i : Int)) a2 w h hmf)
  rw [req_at (a2 6) mi mj, if_neg hne, show chkM (mvS s) (mvD s d) (a2 6) = 8 from if_pos (by simp [idleB, mvS]), hml] at HC
  rw [req_at (a2 6) mj mi, if_neg (Ne.symm hne), show chkM (mvD s d) (mvS s) (a2 6) = 8 from if_pos (by simp [idleB, mvS]), hml] at HD
  simp only at HC HD
  have hil := (List.getElem?_eq_some_iff.1 hi).1
  have hjl := (List.getElem?_eq_some_iff.1 hj).1
  obtain ⟨g, off, rfl, rs⟩ := hL.at hi
  obtain ⟨g', off', e', rd⟩ := hL.at hj
  injection e' with e'
  injection e' with e1 e2 e3
  subst e1 e2
  have hg : g < w.heap.size := by
    obtain ⟨b, o, e1, -, e2, -⟩ := hL (by omega)
    injection e1 with e1
    injection e1 with e1
    omega
  have RS := Lib.hid (And.intro rs (And.intro rd hg))
  have HL0 := Lib.hid hL
  obtain ⟨n, hn⟩ : ∃ n, l.length = n := ⟨_, rfl⟩
  rw [hn] at HB HP1 HP2 HC HD d1 hil hjl ⊢
  have HN := Lib.hid (And.intro hn (hml.trans hn))
  have k1 : ¬ (i : Int) < 0 := by omega
  have k2 : ¬ (n : Int) ≤ (i : Int) := by omega
  have k3 : (i : Int) < (n : Int) := by omega
  have m1 : ¬ (j : Int) < 0 := by omega
  have m2 : ¬ (n : Int) ≤ (j : Int) := by omega
  have m3 : (j : Int) < (n : Int) := by omega
  clear hc hf hL hn hl hi hj hj' hk hs hd hne rs rd hg mi mj hml hmf hm e3
  go_enter Try.func8, Try.ntmps8
  go_upto_region 1 with (fail)
  generalize (w.alloc (.cells (cellsP ((i : Int), (j : Int))) 37)).alloc (.cells (cellsOf a2) 26) = W at *
  go_wp2_with (first | (refine wpList_load_row rfl 26 _ rfl (w.heap.size + 1) rfl 26 _ (0, 0) _ T0.out.2.1 Try.underlying26 rfl info24 ?_))
  refine (HK.out _).mono ?_
  rintro e w1 ⟨rfl, b1⟩
  have T1 := Lib.hid (T0.out.next b1)
  clear b1 T0 HK
  have x0 : w1.cell? ⟨w.heap.size, 0, none⟩ = some (.int .i64 (i : Int)) := T1.out.1.cell 0
  have x1 : w1.cell? ⟨w.heap.size, 1, none⟩ = some (.int .i64 (j : Int)) := T1.out.1.cell 1
  go_upto_region 3 with (first | (go_skip) | (refine isload 26 _ (by with_reducible rfl) ?_; refine wpList_load_rowH 26 _ rfl (w.heap.size + 1) rfl rfl 26 (cellsOf a2) (0, 0) _ T1.out.2.1 Try.underlying26 rfl info24 ?_) | (refine (HB.out w1 (HL0.out.below T1.out.2.2)).mono ?_; rintro e w2 ⟨rfl, b2⟩))
  have T2 := Lib.hid (T1.out.next b2)
  have RS2 : Hid (w2.rangeAt g (off + i * 7) s.row ∧ w2.rangeAt g (off + j * 7) d.row ∧ g < w2.heap.size) := Lib.hid ⟨World.rangeAt.same RS.out.1 (T2.out.2.2.block g RS.out.2.2), World.rangeAt.same RS.out.2.1 (T2.out.2.2.block g RS.out.2.2), Nat.lt_of_lt_of_le RS.out.2.2 T2.out.2.2.size⟩
  clear b2 T1 x0 x1 HB RS
  go_cut [7, 8, 9] from 30 to 45 (fun s7 s8 s9 wx => ∃ b7 b8 : Nat, s7 = .pointer (some ⟨b7, 0, none⟩) ∧ s8 = .pointer (some ⟨b8, 0, none⟩) ∧ s9 = .int .i64 0 ∧ Hid (Blk wx b7 24 (cellsV (mvS s)) ∧ Blk wx b8 24 (cellsV (mvD s d)) ∧ Below w2.heap.size w2 wx))
  case first =>
    refine wp_region_first (fun w' => Below w2.heap.size w2 w') 20 9 [0, 1, 2, 3, 4, 5, 6, 7, 8, 9, 10] (by kernel_rfl) (by kernel_rfl) (Below.refl _ _).drew ?_
    simp only [List.filterMap_cons, List.filterMap_nil, List.getElem?_toArray, List.getElem?_cons_zero, List.getElem?_cons_succ]
    show wpQuiet _ _ _ _ [_, _, _, _, _, _, _, _, _, _, _] _
    iterate 2 (go_big_quiet_step ((intros; rfl)))
    refine q_cell 3 _ ⟨w.heap.size, 0, none⟩ (.int .i64 i) rfl rfl rfl (fun w h => by simp [go_sem, h]) (fun w' h => (h.cell (p := ⟨w.heap.size, 0, none⟩) T2.out.1.lt).trans (T2.out.1.cell 0)) ?_
    simp only [Act.put, List.setIfInBounds_toArray, List.set_cons_zero, List.set_cons_succ]
    iterate 1 (go_big_quiet_step ((intros; rfl)))
    refine q_load_val 24 _ g (off + i * 7) s _ rfl rfl rfl (fun w' h => World.rangeAt.same RS2.out.1 (h.block g RS2.out.2.2)) Try.underlying24 rfl infoV ?_
    simp only [Act.put, List.setIfInBounds_toArray, List.set_cons_zero, List.set_cons_succ]
    iterate 2 (go_big_quiet_step ((intros; rfl)))
    refine q_cell 3 _ ⟨w.heap.size, 1, none⟩ (.int .i64 j) rfl rfl rfl (fun w h => by simp [go_sem, h]) (fun w' h => (h.cell (p := ⟨w.heap.size, 1, none⟩) T2.out.1.lt).trans (T2.out.1.cell 1)) ?_
    simp only [Act.put, List.setIfInBounds_toArray, List.set_cons_zero, List.set_cons_succ]
    iterate 1 (go_big_quiet_step ((intros; rfl)))
    refine q_load_val 24 _ g (off + j * 7) d _ rfl rfl rfl (fun w' h => World.rangeAt.same RS2.out.2.1 (h.block g RS2.out.2.2)) Try.underlying24 rfl infoV ?_
    simp only [Act.put, List.setIfInBounds_toArray, List.set_cons_zero, List.set_cons_succ]
    refine q_load 26 _ (w.heap.size + 1) 26 (cellsOf a2) _ rfl rfl rfl (fun w' h => T2.out.2.1.below h T2.out.2.1.lt) Try.underlying26 rfl info24 ?_
    simp only [Act.put, List.setIfInBounds_toArray, List.set_cons_zero, List.set_cons_succ]
    refine wpQuiet_nil ?_
    have D0 : Hid (Below w2.heap.size w2 w2.drew) := Lib.hid (Below.refl _ _).drew
    generalize w2.drew = w0 at *
    refine headF_three (i := 11) (j := 16) (k := 17) (by kernel_rfl) (by omega) (by omega) (by omega) ?_ ?_ ?_
    · refine wpOp_at rfl rfl (wp_call_at rfl #[.agg (cellsV s), .agg (cellsV d), .agg (cellsOf a2)] (by kernel_rfl) Try.call12 ((HA.out w0).mono ?_))
      rintro e w3 ⟨rfl, bb⟩
      have D_w3 : Hid (Below w2.heap.size w2 w3) := Lib.hid (D0.out.trans (bb.mono D0.out.size))
      clear bb
      refine ⟨_, rfl, D_w3.out, ?_⟩
      simp only [Act.put, List.getElem_toArray, List.getElem_cons_zero, List.getElem_cons_succ, List.setIfInBounds_toArray, List.set_cons_zero, List.set_cons_succ, List.drop_succ_cons, List.drop_zero]
      refine headF_takes (fun w' => Below w2.heap.size w2 w') (m := 8) (f := 4) [12, 13, 14, 15] (fun _ h => h) (by kernel_rfl) D_w3.out ?_
      simp only [List.filterMap_cons, List.filterMap_nil, List.getElem?_toArray, List.getElem?_cons_zero, List.getElem?_cons_succ]
      show wpQuiet _ _ _ _ [_, _, _, _] _
      iterate 4 (go_big_quiet_step ((intros; rfl)))
      refine wpQuiet_nil ?_
      refine headF_two (i := 16) (k := 17) (by kernel_rfl) (by omega) (by omega) ?_ ?_
      · refine wpOp_at rfl rfl (wp_alloc_val rfl ?_)
        have D_w4 : Hid (Below w2.heap.size w2 (w3.alloc (.cells (cellsV val0) 24))) := Lib.hid (D_w3.out.alloc D_w3.out.size _)
        have R7_w4 : Hid (Blk (w3.alloc (.cells (cellsV val0) 24)) w3.heap.size 24 (cellsV val0)) := Lib.hid (Blk.new _ _ _)
        have G7_w4 : Hid (w2.heap.size ≤ w3.heap.size) := Lib.hid D_w3.out.size
        refine ⟨D_w4.out, ?_⟩
        generalize w3.alloc (.cells (cellsV val0) 24) = w4 at *
        simp only [Act.put, List.getElem_toArray, List.getElem_cons_zero, List.getElem_cons_succ, List.setIfInBounds_toArray, List.set_cons_zero, List.set_cons_succ, List.drop_succ_cons, List.drop_zero]
        refine headF_one (i := 17) (by kernel_rfl) (by omega) ?_
        refine wpOp_at rfl rfl (wp_alloc_val rfl ?_)
        have D_w5 : Hid (Below w2.heap.size w2 (w4.alloc (.cells (cellsV val0) 24))) := Lib.hid (D_w4.out.alloc D_w4.out.size _)
        have R8_w5 : Hid (Blk (w4.alloc (.cells (cellsV val0) 24)) w4.heap.size 24 (cellsV val0)) := Lib.hid (Blk.new _ _ _)
        have G8_w5 : Hid (w2.heap.size ≤ w4.heap.size) := Lib.hid D_w4.out.size
        have R7_w5 : Hid (Blk (w4.alloc (.cells (cellsV val0) 24)) w3.heap.size 24 (cellsV val0)) := Lib.hid (Blk.alloc R7_w4.out _)
        have NE_w5 : Hid (w3.heap.size ≠ w4.heap.size) := Lib.hid (Nat.ne_of_lt (Blk.lt R7_w4.out))
        refine ⟨D_w5.out, ?_⟩
        generalize w4.alloc (.cells (cellsV val0) 24) = w5 at *
        simp only [Act.put, List.getElem_toArray, List.getElem_cons_zero, List.getElem_cons_succ, List.setIfInBounds_toArray, List.set_cons_zero, List.set_cons_succ, List.drop_succ_cons, List.drop_zero]
        have NEQ : Hid (w3.heap.size ≠ w4.heap.size) := Lib.hid (by have h1 := NE_w5.out; omega)
        refine headF_one (i := 18) (by kernel_rfl) (by omega) ?_
        refine wpOp_at rfl rfl (wp_store_row _ _ _ rfl (w3.heap.size) (cellsV (mvS s)) rfl rfl 24 _ R7_w5.out infoV rfl (cellsV_one _) ?_)
        have D_w6 : Hid (Below w2.heap.size w2 (w5.setRow (w3.heap.size) (cellsV (mvS s)))) := Lib.hid (below_setRow D_w5.out G7_w4.out _)
        have R7_w6 : Hid (Blk (w5.setRow (w3.heap.size) (cellsV (mvS s))) (w3.heap.size) 24 (cellsV (mvS s))) := Lib.hid (setRow_heap _ _ _ _ _ _ R7_w5.out)
        have R8_w6 : Hid (Blk (w5.setRow (w3.heap.size) (cellsV (mvS s))) (w4.heap.size) 24 (cellsV val0)) := Lib.hid ((setRow_other _ _ _ _ (fun e => NEQ.out e.symm)).trans R8_w5.out)
        refine ⟨D_w6.out, ?_⟩
        generalize w5.setRow (w3.heap.size) (cellsV (mvS s)) = w6 at *
        simp only [Act.put, List.getElem_toArray, List.getElem_cons_zero, List.getElem_cons_succ, List.setIfInBounds_toArray, List.set_cons_zero, List.set_cons_succ, List.drop_succ_cons, List.drop_zero]
        refine headF_one (i := 19) (by kernel_rfl) (by omega) ?_
        refine wpOp_at rfl rfl (wp_store_row _ _ _ rfl (w4.heap.size) (cellsV (mvD s d)) rfl rfl 24 _ R8_w6.out infoV rfl (cellsV_one _) ?_)
        have Z : Hid (Blk (w6.setRow (w4.heap.size) (cellsV (mvD s d))) (w3.heap.size) 24 (cellsV (mvS s)) ∧ Blk (w6.setRow (w4.heap.size) (cellsV (mvD s d))) (w4.heap.size) 24 (cellsV (mvD s d)) ∧ Below w2.heap.size w2 (w6.setRow (w4.heap.size) (cellsV (mvD s d)))) := Lib.hid ⟨(setRow_other _ _ _ _ NEQ.out).trans R7_w6.out, setRow_heap _ _ _ _ _ _ R8_w6.out, below_setRow D_w6.out G8_w5.out _⟩
        refine ⟨Z.out.2.2, ?_⟩
        generalize w6.setRow (w4.heap.size) (cellsV (mvD s d)) = w7 at *
        show Region.seqB _ _ _ _ _ = true ∧ _
        refine ⟨by kernel_rfl, ?_⟩
        simp only [Act.put, List.getElem_toArray, List.getElem_cons_zero, List.getElem_cons_succ, List.setIfInBounds_toArray, List.set_cons_zero, List.set_cons_succ, List.drop_succ_cons, List.drop_zero]
        go_wp2
        refine NoPanic.normal ?_
        go_wp2_with fail
        go_meet
        exact ⟨_, _, rfl, rfl, rfl, Z⟩
      · refine wpOp_at rfl rfl (wp_alloc_val rfl ?_)
        have D_w8 : Hid (Below w2.heap.size w2 (w3.alloc (.cells (cellsV val0) 24))) := Lib.hid (D_w3.out.alloc D_w3.out.size _)
        have R8_w8 : Hid (Blk (w3.alloc (.cells (cellsV val0) 24)) w3.heap.size 24 (cellsV val0)) := Lib.hid (Blk.new _ _ _)
        have G8_w8 : Hid (w2.heap.size ≤ w3.heap.size) := Lib.hid D_w3.out.size
        refine ⟨D_w8.out, ?_⟩
        generalize w3.alloc (.cells (cellsV val0) 24) = w8 at *
        simp only [Act.put, List.getElem_toArray, List.getElem_cons_zero, List.getElem_cons_succ, List.setIfInBounds_toArray, List.set_cons_zero, List.set_cons_succ, List.drop_succ_cons, List.drop_zero]
        refine headF_one (i := 16) (by kernel_rfl) (by omega) ?_
        refine wpOp_at rfl rfl (wp_alloc_val rfl ?_)
        have D_w9 : Hid (Below w2.heap.size w2 (w8.alloc (.cells (cellsV val0) 24))) := Lib.hid (D_w8.out.alloc D_w8.out.size _)
        have R7_w9 : Hid (Blk (w8.alloc (.cells (cellsV val0) 24)) w8.heap.size 24 (cellsV val0)) := Lib.hid (Blk.new _ _ _)
        have G7_w9 : Hid (w2.heap.size ≤ w8.heap.size) := Lib.hid D_w8.out.size
        have R8_w9 : Hid (Blk (w8.alloc (.cells (cellsV val0) 24)) w3.heap.size 24 (cellsV val0)) := Lib.hid (Blk.alloc R8_w8.out _)
        have NE_w9 : Hid (w3.heap.size ≠ w8.heap.size) := Lib.hid (Nat.ne_of_lt (Blk.lt R8_w8.out))
        refine ⟨D_w9.out, ?_⟩
        generalize w8.alloc (.cells (cellsV val0) 24) = w9 at *
        simp only [Act.put, List.getElem_toArray, List.getElem_cons_zero, List.getElem_cons_succ, List.setIfInBounds_toArray, List.set_cons_zero, List.set_cons_succ, List.drop_succ_cons, List.drop_zero]
        have NEQ : Hid (w8.heap.size ≠ w3.heap.size) := Lib.hid (by have h1 := NE_w9.out; omega)
        refine headF_one (i := 18) (by kernel_rfl) (by omega) ?_
        refine wpOp_at rfl rfl (wp_store_row _ _ _ rfl (w8.heap.size) (cellsV (mvS s)) rfl rfl 24 _ R7_w9.out infoV rfl (cellsV_one _) ?_)
        have D_w10 : Hid (Below w2.heap.size w2 (w9.setRow (w8.heap.size) (cellsV (mvS s)))) := Lib.hid (below_setRow D_w9.out G7_w9.out _)
        have R7_w10 : Hid (Blk (w9.setRow (w8.heap.size) (cellsV (mvS s))) (w8.heap.size) 24 (cellsV (mvS s))) := Lib.hid (setRow_heap _ _ _ _ _ _ R7_w9.out)
        have R8_w10 : Hid (Blk (w9.setRow (w8.heap.size) (cellsV (mvS s))) (w3.heap.size) 24 (cellsV val0)) := Lib.hid ((setRow_other _ _ _ _ (fun e => NEQ.out e.symm)).trans R8_w9.out)
        refine ⟨D_w10.out, ?_⟩
        generalize w9.setRow (w8.heap.size) (cellsV (mvS s)) = w10 at *
        simp only [Act.put, List.getElem_toArray, List.getElem_cons_zero, List.getElem_cons_succ, List.setIfInBounds_toArray, List.set_cons_zero, List.set_cons_succ, List.drop_succ_cons, List.drop_zero]
        refine headF_one (i := 19) (by kernel_rfl) (by omega) ?_
        refine wpOp_at rfl rfl (wp_store_row _ _ _ rfl (w3.heap.size) (cellsV (mvD s d)) rfl rfl 24 _ R8_w10.out infoV rfl (cellsV_one _) ?_)
        have Z : Hid (Blk (w10.setRow (w3.heap.size) (cellsV (mvD s d))) (w8.heap.size) 24 (cellsV (mvS s)) ∧ Blk (w10.setRow (w3.heap.size) (cellsV (mvD s d))) (w3.heap.size) 24 (cellsV (mvD s d)) ∧ Below w2.heap.size w2 (w10.setRow (w3.heap.size) (cellsV (mvD s d)))) := Lib.hid ⟨(setRow_other _ _ _ _ NEQ.out).trans R7_w10.out, setRow_heap _ _ _ _ _ _ R8_w10.out, below_setRow D_w10.out G8_w8.out _⟩
        refine ⟨Z.out.2.2, ?_⟩
        generalize w10.setRow (w3.heap.size) (cellsV (mvD s d)) = w11 at *
        show Region.seqB _ _ _ _ _ = true ∧ _
        refine ⟨by kernel_rfl, ?_⟩
        simp only [Act.put, List.getElem_toArray, List.getElem_cons_zero, List.getElem_cons_succ, List.setIfInBounds_toArray, List.set_cons_zero, List.set_cons_succ, List.drop_succ_cons, List.drop_zero]
        go_wp2
        refine NoPanic.normal ?_
        go_wp2_with fail
        go_meet
        exact ⟨_, _, rfl, rfl, rfl, Z⟩
    · refine wpOp_at rfl rfl (wp_alloc_val rfl ?_)
      have D_w12 : Hid (Below w2.heap.size w2 (w0.alloc (.cells (cellsV val0) 24))) := Lib.hid (D0.out.alloc D0.out.size _)
      have R7_w12 : Hid (Blk (w0.alloc (.cells (cellsV val0) 24)) w0.heap.size 24 (cellsV val0)) := Lib.hid (Blk.new _ _ _)
      have G7_w12 : Hid (w2.heap.size ≤ w0.heap.size) := Lib.hid D0.out.size
      refine ⟨D_w12.out, ?_⟩
      generalize w0.alloc (.cells (cellsV val0) 24) = w12 at *
      simp only [Act.put, List.getElem_toArray, List.getElem_cons_zero, List.getElem_cons_succ, List.setIfInBounds_toArray, List.set_cons_zero, List.set_cons_succ, List.drop_succ_cons, List.drop_zero]
      refine headF_two (i := 11) (k := 17) (by kernel_rfl) (by omega) (by omega) ?_ ?_
      · refine wpOp_at rfl rfl (wp_call_at rfl #[.agg (cellsV s), .agg (cellsV d), .agg (cellsOf a2)] (by kernel_rfl) Try.call12 ((HA.out w12).mono ?_))
        rintro e w13 ⟨rfl, bb⟩
        have D_w13 : Hid (Below w2.heap.size w2 w13) := Lib.hid (D_w12.out.trans (bb.mono D_w12.out.size))
        have R7_w13 := Lib.hid (Blk.below R7_w12.out bb (Blk.lt R7_w12.out))
        clear bb
        refine ⟨_, rfl, D_w13.out, ?_⟩
        simp only [Act.put, List.getElem_toArray, List.getElem_cons_zero, List.getElem_cons_succ, List.setIfInBounds_toArray, List.set_cons_zero, List.set_cons_succ, List.drop_succ_cons, List.drop_zero]
        refine headF_takes (fun w' => Below w2.heap.size w2 w') (m := 7) (f := 3) [12, 13, 14, 15] (fun _ h => h) (by kernel_rfl) D_w13.out ?_
        simp only [List.filterMap_cons, List.filterMap_nil, List.getElem?_toArray, List.getElem?_cons_zero, List.getElem?_cons_succ]
        show wpQuiet _ _ _ _ [_, _, _, _] _
        iterate 4 (go_big_quiet_step ((intros; rfl)))
        refine wpQuiet_nil ?_
        refine headF_one (i := 17) (by kernel_rfl) (by omega) ?_
        refine wpOp_at rfl rfl (wp_alloc_val rfl ?_)
        have D_w14 : Hid (Below w2.heap.size w2 (w13.alloc (.cells (cellsV val0) 24))) := Lib.hid (D_w13.out.alloc D_w13.out.size _)
        have R8_w14 : Hid (Blk (w13.alloc (.cells (cellsV val0) 24)) w13.heap.size 24 (cellsV val0)) := Lib.hid (Blk.new _ _ _)
        have G8_w14 : Hid (w2.heap.size ≤ w13.heap.size) := Lib.hid D_w13.out.size
        have R7_w14 : Hid (Blk (w13.alloc (.cells (cellsV val0) 24)) w0.heap.size 24 (cellsV val0)) := Lib.hid (Blk.alloc R7_w13.out _)
        have NE_w14 : Hid (w0.heap.size ≠ w13.heap.size) := Lib.hid (Nat.ne_of_lt (Blk.lt R7_w13.out))
        refine ⟨D_w14.out, ?_⟩
        generalize w13.alloc (.cells (cellsV val0) 24) = w14 at *
        simp only [Act.put, List.getElem_toArray, List.getElem_cons_zero, List.getElem_cons_succ, List.setIfInBounds_toArray, List.set_cons_zero, List.set_cons_succ, List.drop_succ_cons, List.drop_zero]
        have NEQ : Hid (w0.heap.size ≠ w13.heap.size) := Lib.hid (by have h1 := NE_w14.out; omega)
        refine headF_one (i := 18) (by kernel_rfl) (by omega) ?_
        refine wpOp_at rfl rfl (wp_store_row _ _ _ rfl (w0.heap.size) (cellsV (mvS s)) rfl rfl 24 _ R7_w14.out infoV rfl (cellsV_one _) ?_)
        have D_w15 : Hid (Below w2.heap.size w2 (w14.setRow (w0.heap.size) (cellsV (mvS s)))) := Lib.hid (below_setRow D_w14.out G7_w12.out _)
        have R7_w15 : Hid (Blk (w14.setRow (w0.heap.size) (cellsV (mvS s))) (w0.heap.size) 24 (cellsV (mvS s))) := Lib.hid (setRow_heap _ _ _ _ _ _ R7_w14.out)
        have R8_w15 : Hid (Blk (w14.setRow (w0.heap.size) (cellsV (mvS s))) (w13.heap.size) 24 (cellsV val0)) := Lib.hid ((setRow_other _ _ _ _ (fun e => NEQ.out e.symm)).trans R8_w14.out)
        refine ⟨D_w15.out, ?_⟩
        generalize w14.setRow (w0.heap.size) (cellsV (mvS s)) = w15 at *
        simp only [Act.put, List.getElem_toArray, List.getElem_cons_zero, List.getElem_cons_succ, List.setIfInBounds_toArray, List.set_cons_zero, List.set_cons_succ, List.drop_succ_cons, List.drop_zero]
        refine headF_one (i := 19) (by kernel_rfl) (by omega) ?_
        refine wpOp_at rfl rfl (wp_store_row _ _ _ rfl (w13.heap.size) (cellsV (mvD s d)) rfl rfl 24 _ R8_w15.out infoV rfl (cellsV_one _) ?_)
        have Z : Hid (Blk (w15.setRow (w13.heap.size) (cellsV (mvD s d))) (w0.heap.size) 24 (cellsV (mvS s)) ∧ Blk (w15.setRow (w13.heap.size) (cellsV (mvD s d))) (w13.heap.size) 24 (cellsV (mvD s d)) ∧ Below w2.heap.size w2 (w15.setRow (w13.heap.size) (cellsV (mvD s d)))) := Lib.hid ⟨(setRow_other _ _ _ _ NEQ.out).trans R7_w15.out, setRow_heap _ _ _ _ _ _ R8_w15.out, below_setRow D_w15.out G8_w14.out _⟩
        refine ⟨Z.out.2.2, ?_⟩
        generalize w15.setRow (w13.heap.size) (cellsV (mvD s d)) = w16 at *
        show Region.seqB _ _ _ _ _ = true ∧ _
        refine ⟨by kernel_rfl, ?_⟩
        simp only [Act.put, List.getElem_toArray, List.getElem_cons_zero, List.getElem_cons_succ, List.setIfInBounds_toArray, List.set_cons_zero, List.set_cons_succ, List.drop_succ_cons, List.drop_zero]
        go_wp2
        refine NoPanic.normal ?_
        go_wp2_with fail
        go_meet
        exact ⟨_, _, rfl, rfl, rfl, Z⟩
      · refine wpOp_at rfl rfl (wp_alloc_val rfl ?_)
        have D_w17 : Hid (Below w2.heap.size w2 (w12.alloc (.cells (cellsV val0) 24))) := Lib.hid (D_w12.out.alloc D_w12.out.size _)
        have R8_w17 : Hid (Blk (w12.alloc (.cells (cellsV val0) 24)) w12.heap.size 24 (cellsV val0)) := Lib.hid (Blk.new _ _ _)
        have G8_w17 : Hid (w2.heap.size ≤ w12.heap.size) := Lib.hid D_w12.out.size
        have R7_w17 : Hid (Blk (w12.alloc (.cells (cellsV val0) 24)) w0.heap.size 24 (cellsV val0)) := Lib.hid (Blk.alloc R7_w12.out _)
        have NE_w17 : Hid (w0.heap.size ≠ w12.heap.size) := Lib.hid (Nat.ne_of_lt (Blk.lt R7_w12.out))
        refine ⟨D_w17.out, ?_⟩
        generalize w12.alloc (.cells (cellsV val0) 24) = w17 at *
        simp only [Act.put, List.getElem_toArray, List.getElem_cons_zero, List.getElem_cons_succ, List.setIfInBounds_toArray, List.set_cons_zero, List.set_cons_succ, List.drop_succ_cons, List.drop_zero]
        refine headF_one (i := 11) (by kernel_rfl) (by omega) ?_
        refine wpOp_at rfl rfl (wp_call_at rfl #[.agg (cellsV s), .agg (cellsV d), .agg (cellsOf a2)] (by kernel_rfl) Try.call12 ((HA.out w17).mono ?_))
        rintro e w18 ⟨rfl, bb⟩
        have D_w18 : Hid (Below w2.heap.size w2 w18) := Lib.hid (D_w17.out.trans (bb.mono D_w17.out.size))
        have R8_w18 := Lib.hid (Blk.below R8_w17.out bb (Blk.lt R8_w17.out))
        have R7_w18 := Lib.hid (Blk.below R7_w17.out bb (Blk.lt R7_w17.out))
        clear bb
        refine ⟨_, rfl, D_w18.out, ?_⟩
        simp only [Act.put, List.getElem_toArray, List.getElem_cons_zero, List.getElem_cons_succ, List.setIfInBounds_toArray, List.set_cons_zero, List.set_cons_succ, List.drop_succ_cons, List.drop_zero]
        refine headF_takes (fun w' => Below w2.heap.size w2 w') (m := 6) (f := 2) [12, 13, 14, 15] (fun _ h => h) (by kernel_rfl) D_w18.out ?_
        simp only [List.filterMap_cons, List.filterMap_nil, List.getElem?_toArray, List.getElem?_cons_zero, List.getElem?_cons_succ]
        show wpQuiet _ _ _ _ [_, _, _, _] _
        iterate 4 (go_big_quiet_step ((intros; rfl)))
        refine wpQuiet_nil ?_
        have NEQ : Hid (w0.heap.size ≠ w12.heap.size) := Lib.hid (by have h1 := NE_w17.out; omega)
        refine headF_one (i := 18) (by kernel_rfl) (by omega) ?_
        refine wpOp_at rfl rfl (wp_store_row _ _ _ rfl (w0.heap.size) (cellsV (mvS s)) rfl rfl 24 _ R7_w18.out infoV rfl (cellsV_one _) ?_)
        have D_w19 : Hid (Below w2.heap.size w2 (w18.setRow (w0.heap.size) (cellsV (mvS s)))) := Lib.hid (below_setRow D_w18.out G7_w12.out _)
        have R7_w19 : Hid (Blk (w18.setRow (w0.heap.size) (cellsV (mvS s))) (w0.heap.size) 24 (cellsV (mvS s))) := Lib.hid (setRow_heap _ _ _ _ _ _ R7_w18.out)
        have R8_w19 : Hid (Blk (w18.setRow (w0.heap.size) (cellsV (mvS s))) (w12.heap.size) 24 (cellsV val0)) := Lib.hid ((setRow_other _ _ _ _ (fun e => NEQ.out e.symm)).trans R8_w18.out)
        refine ⟨D_w19.out, ?_⟩
        generalize w18.setRow (w0.heap.size) (cellsV (mvS s)) = w19 at *
        simp only [Act.put, List.getElem_toArray, List.getElem_cons_zero, List.getElem_cons_succ, List.setIfInBounds_toArray, List.set_cons_zero, List.set_cons_succ, List.drop_succ_cons, List.drop_zero]
        refine headF_one (i := 19) (by kernel_rfl) (by omega) ?_
        refine wpOp_at rfl rfl (wp_store_row _ _ _ rfl (w12.heap.size) (cellsV (mvD s d)) rfl rfl 24 _ R8_w19.out infoV rfl (cellsV_one _) ?_)
        have Z : Hid (Blk (w19.setRow (w12.heap.size) (cellsV (mvD s d))) (w0.heap.size) 24 (cellsV (mvS s)) ∧ Blk (w19.setRow (w12.heap.size) (cellsV (mvD s d))) (w12.heap.size) 24 (cellsV (mvD s d)) ∧ Below w2.heap.size w2 (w19.setRow (w12.heap.size) (cellsV (mvD s d)))) := Lib.hid ⟨(setRow_other _ _ _ _ NEQ.out).trans R7_w19.out, setRow_heap _ _ _ _ _ _ R8_w19.out, below_setRow D_w19.out G8_w17.out _⟩
        refine ⟨Z.out.2.2, ?_⟩
        generalize w19.setRow (w12.heap.size) (cellsV (mvD s d)) = w20 at *
        show Region.seqB _ _ _ _ _ = true ∧ _
        refine ⟨by kernel_rfl, ?_⟩
        simp only [Act.put, List.getElem_toArray, List.getElem_cons_zero, List.getElem_cons_succ, List.setIfInBounds_toArray, List.set_cons_zero, List.set_cons_succ, List.drop_succ_cons, List.drop_zero]
        go_wp2
        refine NoPanic.normal ?_
        go_wp2_with fail
        go_meet
        exact ⟨_, _, rfl, rfl, rfl, Z⟩
    · refine wpOp_at rfl rfl (wp_alloc_val rfl ?_)
      have D_w21 : Hid (Below w2.heap.size w2 (w0.alloc (.cells (cellsV val0) 24))) := Lib.hid (D0.out.alloc D0.out.size _)
      have R8_w21 : Hid (Blk (w0.alloc (.cells (cellsV val0) 24)) w0.heap.size 24 (cellsV val0)) := Lib.hid (Blk.new _ _ _)
      have G8_w21 : Hid (w2.heap.size ≤ w0.heap.size) := Lib.hid D0.out.size
      refine ⟨D_w21.out, ?_⟩
      generalize w0.alloc (.cells (cellsV val0) 24) = w21 at *
      simp only [Act.put, List.getElem_toArray, List.getElem_cons_zero, List.getElem_cons_succ, List.setIfInBounds_toArray, List.set_cons_zero, List.set_cons_succ, List.drop_succ_cons, List.drop_zero]
      refine headF_two (i := 11) (k := 16) (by kernel_rfl) (by omega) (by omega) ?_ ?_
      · refine wpOp_at rfl rfl (wp_call_at rfl #[.agg (cellsV s), .agg (cellsV d), .agg (cellsOf a2)] (by kernel_rfl) Try.call12 ((HA.out w21).mono ?_))
        rintro e w22 ⟨rfl, bb⟩
        have D_w22 : Hid (Below w2.heap.size w2 w22) := Lib.hid (D_w21.out.trans (bb.mono D_w21.out.size))
        have R8_w22 := Lib.hid (Blk.below R8_w21.out bb (Blk.lt R8_w21.out))
        clear bb
        refine ⟨_, rfl, D_w22.out, ?_⟩
        simp only [Act.put, List.getElem_toArray, List.getElem_cons_zero, List.getElem_cons_succ, List.setIfInBounds_toArray, List.set_cons_zero, List.set_cons_succ, List.drop_succ_cons, List.drop_zero]
        refine headF_takes (fun w' => Below w2.heap.size w2 w') (m := 7) (f := 3) [12, 13, 14, 15] (fun _ h => h) (by kernel_rfl) D_w22.out ?_
        simp only [List.filterMap_cons, List.filterMap_nil, List.getElem?_toArray, List.getElem?_cons_zero, List.getElem?_cons_succ]
        show wpQuiet _ _ _ _ [_, _, _, _] _
        iterate 4 (go_big_quiet_step ((intros; rfl)))
        refine wpQuiet_nil ?_
        refine headF_one (i := 16) (by kernel_rfl) (by omega) ?_
        refine wpOp_at rfl rfl (wp_alloc_val rfl ?_)
        have D_w23 : Hid (Below w2.heap.size w2 (w22.alloc (.cells (cellsV val0) 24))) := Lib.hid (D_w22.out.alloc D_w22.out.size _)
        have R7_w23 : Hid (Blk (w22.alloc (.cells (cellsV val0) 24)) w22.heap.size 24 (cellsV val0)) := Lib.hid (Blk.new _ _ _)
        have G7_w23 : Hid (w2.heap.size ≤ w22.heap.size) := Lib.hid D_w22.out.size
        have R8_w23 : Hid (Blk (w22.alloc (.cells (cellsV val0) 24)) w0.heap.size 24 (cellsV val0)) := Lib.hid (Blk.alloc R8_w22.out _)
        have NE_w23 : Hid (w0.heap.size ≠ w22.heap.size) := Lib.hid (Nat.ne_of_lt (Blk.lt R8_w22.out))
        refine ⟨D_w23.out, ?_⟩
        generalize w22.alloc (.cells (cellsV val0) 24) = w23 at *
        simp only [Act.put, List.getElem_toArray, List.getElem_cons_zero, List.getElem_cons_succ, List.setIfInBounds_toArray, List.set_cons_zero, List.set_cons_succ, List.drop_succ_cons, List.drop_zero]
        have NEQ : Hid (w22.heap.size ≠ w0.heap.size) := Lib.hid (by have h1 := NE_w23.out; omega)
        refine headF_one (i := 18) (by kernel_rfl) (by omega) ?_
        refine wpOp_at rfl rfl (wp_store_row _ _ _ rfl (w22.heap.size) (cellsV (mvS s)) rfl rfl 24 _ R7_w23.out infoV rfl (cellsV_one _) ?_)
        have D_w24 : Hid (Below w2.heap.size w2 (w23.setRow (w22.heap.size) (cellsV (mvS s)))) := Lib.hid (below_setRow D_w23.out G7_w23.out _)
        have R7_w24 : Hid (Blk (w23.setRow (w22.heap.size) (cellsV (mvS s))) (w22.heap.size) 24 (cellsV (mvS s))) := Lib.hid (setRow_heap _ _ _ _ _ _ R7_w23.out)
        have R8_w24 : Hid (Blk (w23.setRow (w22.heap.size) (cellsV (mvS s))) (w0.heap.size) 24 (cellsV val0)) := Lib.hid ((setRow_other _ _ _ _ (fun e => NEQ.out e.symm)).trans R8_w23.out)
        refine ⟨D_w24.out, ?_⟩
        generalize w23.setRow (w22.heap.size) (cellsV (mvS s)) = w24 at *
        simp only [Act.put, List.getElem_toArray, List.getElem_cons_zero, List.getElem_cons_succ, List.setIfInBounds_toArray, List.set_cons_zero, List.set_cons_succ, List.drop_succ_cons, List.drop_zero]
        refine headF_one (i := 19) (by kernel_rfl) (by omega) ?_
        refine wpOp_at rfl rfl (wp_store_row _ _ _ rfl (w0.heap.size) (cellsV (mvD s d)) rfl rfl 24 _ R8_w24.out infoV rfl (cellsV_one _) ?_)
        have Z : Hid (Blk (w24.setRow (w0.heap.size) (cellsV (mvD s d))) (w22.heap.size) 24 (cellsV (mvS s)) ∧ Blk (w24.setRow (w0.heap.size) (cellsV (mvD s d))) (w0.heap.size) 24 (cellsV (mvD s d)) ∧ Below w2.heap.size w2 (w24.setRow (w0.heap.size) (cellsV (mvD s d)))) := Lib.hid ⟨(setRow_other _ _ _ _ NEQ.out).trans R7_w24.out, setRow_heap _ _ _ _ _ _ R8_w24.out, below_setRow D_w24.out G8_w21.out _⟩
        refine ⟨Z.out.2.2, ?_⟩
        generalize w24.setRow (w0.heap.size) (cellsV (mvD s d)) = w25 at *
        show Region.seqB _ _ _ _ _ = true ∧ _
        refine ⟨by kernel_rfl, ?_⟩
        simp only [Act.put, List.getElem_toArray, List.getElem_cons_zero, List.getElem_cons_succ, List.setIfInBounds_toArray, List.set_cons_zero, List.set_cons_succ, List.drop_succ_cons, List.drop_zero]
        go_wp2
        refine NoPanic.normal ?_
        go_wp2_with fail
        go_meet
        exact ⟨_, _, rfl, rfl, rfl, Z⟩
      · refine wpOp_at rfl rfl (wp_alloc_val rfl ?_)
        have D_w26 : Hid (Below w2.heap.size w2 (w21.alloc (.cells (cellsV val0) 24))) := Lib.hid (D_w21.out.alloc D_w21.out.size _)
        have R7_w26 : Hid (Blk (w21.alloc (.cells (cellsV val0) 24)) w21.heap.size 24 (cellsV val0)) := Lib.hid (Blk.new _ _ _)
        have G7_w26 : Hid (w2.heap.size ≤ w21.heap.size) := Lib.hid D_w21.out.size
        have R8_w26 : Hid (Blk (w21.alloc (.cells (cellsV val0) 24)) w0.heap.size 24 (cellsV val0)) := Lib.hid (Blk.alloc R8_w21.out _)
        have NE_w26 : Hid (w0.heap.size ≠ w21.heap.size) := Lib.hid (Nat.ne_of_lt (Blk.lt R8_w21.out))
        refine ⟨D_w26.out, ?_⟩
        generalize w21.alloc (.cells (cellsV val0) 24) = w26 at *
        simp only [Act.put, List.getElem_toArray, List.getElem_cons_zero, List.getElem_cons_succ, List.setIfInBounds_toArray, List.set_cons_zero, List.set_cons_succ, List.drop_succ_cons, List.drop_zero]
        refine headF_one (i := 11) (by kernel_rfl) (by omega) ?_
        refine wpOp_at rfl rfl (wp_call_at rfl #[.agg (cellsV s), .agg (cellsV d), .agg (cellsOf a2)] (by kernel_rfl) Try.call12 ((HA.out w26).mono ?_))
        rintro e w27 ⟨rfl, bb⟩
        have D_w27 : Hid (Below w2.heap.size w2 w27) := Lib.hid (D_w26.out.trans (bb.mono D_w26.out.size))
        have R7_w27 := Lib.hid (Blk.below R7_w26.out bb (Blk.lt R7_w26.out))
        have R8_w27 := Lib.hid (Blk.below R8_w26.out bb (Blk.lt R8_w26.out))
        clear bb
        refine ⟨_, rfl, D_w27.out, ?_⟩
        simp only [Act.put, List.getElem_toArray, List.getElem_cons_zero, List.getElem_cons_succ, List.setIfInBounds_toArray, List.set_cons_zero, List.set_cons_succ, List.drop_succ_cons, List.drop_zero]
        refine headF_takes (fun w' => Below w2.heap.size w2 w') (m := 6) (f := 2) [12, 13, 14, 15] (fun _ h => h) (by kernel_rfl) D_w27.out ?_
        simp only [List.filterMap_cons, List.filterMap_nil, List.getElem?_toArray, List.getElem?_cons_zero, List.getElem?_cons_succ]
        show wpQuiet _ _ _ _ [_, _, _, _] _
        iterate 4 (go_big_quiet_step ((intros; rfl)))
        refine wpQuiet_nil ?_
        have NEQ : Hid (w21.heap.size ≠ w0.heap.size) := Lib.hid (by have h1 := NE_w26.out; omega)
        refine headF_one (i := 18) (by kernel_rfl) (by omega) ?_
        refine wpOp_at rfl rfl (wp_store_row _ _ _ rfl (w21.heap.size) (cellsV (mvS s)) rfl rfl 24 _ R7_w27.out infoV rfl (cellsV_one _) ?_)
        have D_w28 : Hid (Below w2.heap.size w2 (w27.setRow (w21.heap.size) (cellsV (mvS s)))) := Lib.hid (below_setRow D_w27.out G7_w26.out _)
        have R7_w28 : Hid (Blk (w27.setRow (w21.heap.size) (cellsV (mvS s))) (w21.heap.size) 24 (cellsV (mvS s))) := Lib.hid (setRow_heap _ _ _ _ _ _ R7_w27.out)
        have R8_w28 : Hid (Blk (w27.setRow (w21.heap.size) (cellsV (mvS s))) (w0.heap.size) 24 (cellsV val0)) := Lib.hid ((setRow_other _ _ _ _ (fun e => NEQ.out e.symm)).trans R8_w27.out)
        refine ⟨D_w28.out, ?_⟩
        generalize w27.setRow (w21.heap.size) (cellsV (mvS s)) = w28 at *
        simp only [Act.put, List.getElem_toArray, List.getElem_cons_zero, List.getElem_cons_succ, List.setIfInBounds_toArray, List.set_cons_zero, List.set_cons_succ, List.drop_succ_cons, List.drop_zero]
        refine headF_one (i := 19) (by kernel_rfl) (by omega) ?_
        refine wpOp_at rfl rfl (wp_store_row _ _ _ rfl (w0.heap.size) (cellsV (mvD s d)) rfl rfl 24 _ R8_w28.out infoV rfl (cellsV_one _) ?_)
        have Z : Hid (Blk (w28.setRow (w0.heap.size) (cellsV (mvD s d))) (w21.heap.size) 24 (cellsV (mvS s)) ∧ Blk (w28.setRow (w0.heap.size) (cellsV (mvD s d))) (w0.heap.size) 24 (cellsV (mvD s d)) ∧ Below w2.heap.size w2 (w28.setRow (w0.heap.size) (cellsV (mvD s d)))) := Lib.hid ⟨(setRow_other _ _ _ _ NEQ.out).trans R7_w28.out, setRow_heap _ _ _ _ _ _ R8_w28.out, below_setRow D_w28.out G8_w21.out _⟩
        refine ⟨Z.out.2.2, ?_⟩
        generalize w28.setRow (w0.heap.size) (cellsV (mvD s d)) = w29 at *
        show Region.seqB _ _ _ _ _ = true ∧ _
        refine ⟨by kernel_rfl, ?_⟩
        simp only [Act.put, List.getElem_toArray, List.getElem_cons_zero, List.getElem_cons_succ, List.setIfInBounds_toArray, List.set_cons_zero, List.set_cons_succ, List.drop_succ_cons, List.drop_zero]
        go_wp2
        refine NoPanic.normal ?_
        go_wp2_with fail
        go_meet
        exact ⟨_, _, rfl, rfl, rfl, Z⟩
  case rest =>
    obtain ⟨b7, b8, rfl, rfl, rfl, Z⟩ := hcut
    have T3 := Lib.hid (T2.out.next Z.out.2.2)
    have HLc : Hid (Lst wc (fun _ => False) (some ⟨g, off, none⟩) l) := Lib.hid (HL0.out.below T3.out.2.2)
    clear T2 RS2
    go_wp2
    have ZC : Hid (wc.drew.cell? ⟨w.heap.size, 0, none⟩ = some (.int .i64 i) ∧ wc.drew.cell? ⟨w.heap.size, 1, none⟩ = some (.int .i64 j) ∧ Blk wc.drew b7 24 (cellsV (mvS s)) ∧ Blk wc.drew b8 24 (cellsV (mvD s d))) := Lib.hid ⟨T3.out.1.cell 0, T3.out.1.cell 1, Z.out.1, Z.out.2.1⟩
    have T4 : Hid (PBox w wc.drew ((i : Int), (j : Int)) a2) := Lib.hid (T3.out.next (Below.refl _ _).drew)
    have HL4 : Hid (Lst wc.drew (fun _ => False) (some ⟨g, off, none⟩) l) := Lib.hid HLc.out.drew
    clear Z T3 HLc
    refine wp_region_first (fun w' => w'.cell? ⟨w.heap.size, 0, none⟩ = some (.int .i64 i) ∧ w'.cell? ⟨w.heap.size, 1, none⟩ = some (.int .i64 j) ∧ Blk w' b7 24 (cellsV (mvS s)) ∧ Blk w' b8 24 (cellsV (mvD s d))) 9 2 [0, 1, 2, 3, 5, 6, 7] (by kernel_rfl) (by kernel_rfl) ZC.out ?_
    simp only [List.filterMap_cons, List.filterMap_nil, List.getElem?_toArray, List.getElem?_cons_zero, List.getElem?_cons_succ]
    show wpQuiet _ _ _ _ [_, _, _, _, _, _, _] _
    iterate 2 (go_big_quiet_step ((intros; rfl)))
    refine q_cell 3 _ ⟨w.heap.size, 0, none⟩ (.int .i64 i) rfl rfl rfl (fun w h => by simp [go_sem, h]) (fun w' h => h.1) ?_
    simp only [Act.put, List.setIfInBounds_toArray, List.set_cons_zero, List.set_cons_succ]
    refine q_load 24 _ b7 24 (cellsV (mvS s)) _ rfl rfl rfl (fun w' h => h.2.2.1) Try.underlying24 rfl infoV ?_
    simp only [Act.put, List.setIfInBounds_toArray, List.set_cons_zero, List.set_cons_succ]
    iterate 1 (go_big_quiet_step ((intros; rfl)))
    refine q_cell 3 _ ⟨w.heap.size, 1, none⟩ (.int .i64 j) rfl rfl rfl (fun w h => by simp [go_sem, h]) (fun w' h => h.2.1) ?_
    simp only [Act.put, List.setIfInBounds_toArray, List.set_cons_zero, List.set_cons_succ]
    refine q_load 24 _ b8 24 (cellsV (mvD s d)) _ rfl rfl rfl (fun w' h => h.2.2.2) Try.underlying24 rfl infoV ?_
    simp only [Act.put, List.setIfInBounds_toArray, List.set_cons_zero, List.set_cons_succ]
    refine wpQuiet_nil ?_
    generalize wc.drew = w40 at *
    refine headF_one (i := 4) (by kernel_rfl) (by omega) ?_
    refine wpOp_at rfl rfl (wp_call_at rfl #[.slice (some ⟨g, off, none⟩) n cap0, .int .i64 i, .agg (cellsV (mvS s))] (by kernel_rfl) Try.call24 ((HP1.out w40 HL4.out).mono ?_))
    rintro e w41 ⟨u, rfl, ho, b5⟩
    have hsl : (l.set i (mvS s)).length = n := by rw [List.length_set]; exact HN.out.1
    obtain ⟨a5, cp5, rfl, -, -, hl5⟩ : ∃ a cp, u = .slice a n cp ∧ n ≤ cp ∧ cp ≤ maxLen ∧ Lst w41 (fun _ => False) a (l.set i (mvS s)) := by
      have := owns_fresh (S := fun _ => False) (l := l.set i (mvS s)) (by rw [hsl]; exact ho) (fun _ _ h => h)
      rwa [hsl] at this
    have ZC5 : Hid (w41.cell? ⟨w.heap.size, 0, none⟩ = some (.int .i64 i) ∧ w41.cell? ⟨w.heap.size, 1, none⟩ = some (.int .i64 j) ∧ Blk w41 b7 24 (cellsV (mvS s)) ∧ Blk w41 b8 24 (cellsV (mvD s d))) := Lib.hid ⟨(T4.out.next b5).1.cell 0, (T4.out.next b5).1.cell 1, ZC.out.2.2.1.below b5 ZC.out.2.2.1.lt, ZC.out.2.2.2.below b5 ZC.out.2.2.2.lt⟩
    have T5 := Lib.hid (T4.out.next b5)
    have HL5 := Lib.hid hl5
    clear ho b5 hl5 hsl ZC T4 HL4 HP1
    refine ⟨_, rfl, ZC5.out, ?_⟩
    simp only [Act.put, List.getElem_toArray, List.getElem_cons_zero, List.getElem_cons_succ, List.setIfInBounds_toArray, List.set_cons_zero, List.set_cons_succ, List.drop_succ_cons, List.drop_zero]
    refine headF_one (i := 8) (by kernel_rfl) (by omega) ?_
    refine wpOp_at rfl rfl (wp_call_at rfl #[.slice a5 n cp5, .int .i64 j, .agg (cellsV (mvD s d))] (by kernel_rfl) Try.call24 ((HP2.out a5 cp5 w41 HL5.out).mono ?_))
    rintro e w42 ⟨u, rfl, ho, b6⟩
    have T6 := Lib.hid (T5.out.next b6)
    obtain ⟨a6, cp6, rfl, -, -⟩ := owns_slice (owns_base ho (Nat.zero_le _))
    have HL6 : Hid (Lst w42 (fun _ => False) a6 m) := Lib.hid (by have := owns_lst (S := fun _ => False) (l := m) (by rw [HN.out.2]; exact owns_base ho (Nat.zero_le _)) (fun _ _ h => h); exact this)
    refine ⟨_, rfl, ⟨(ZC5.out.1 ▸ b6.cell (p := ⟨w.heap.size, 0, none⟩) T5.out.1.lt), (ZC5.out.2.1 ▸ b6.cell (p := ⟨w.heap.size, 1, none⟩) T5.out.1.lt), ZC5.out.2.2.1.below b6 ZC5.out.2.2.1.lt, ZC5.out.2.2.2.below b6 ZC5.out.2.2.2.lt⟩, ?_⟩
    clear ho b6 T5 HL5 ZC5 HP2
    show Region.seqB _ _ _ _ _ = true ∧ _
    refine ⟨by kernel_rfl, ?_⟩
    simp only [Act.put, List.getElem_toArray, List.getElem_cons_zero, List.getElem_cons_succ, List.setIfInBounds_toArray, List.set_cons_zero, List.set_cons_succ, List.drop_succ_cons, List.drop_zero]
    go_wp2
    refine NoPanic.normal ?_
    go_wp2_with fail
    refine (HV.out _).mono ?_
    rintro e w43 ⟨rfl, b7'⟩
    have T7 := Lib.hid (T6.out.next b7')
    have HL7 := Lib.hid (HL6.out.below b7')
    clear b7' T6 HL6
    have x0 : w43.cell? ⟨w.heap.size, 0, none⟩ = some (.int .i64 (i : Int)) := T7.out.1.cell 0
    have x1 : w43.cell? ⟨w.heap.size, 1, none⟩ = some (.int .i64 (j : Int)) := T7.out.1.cell 1
    go_wp2_with (first | (go_skip) | (refine isload 26 _ (by with_reducible rfl) ?_; refine wpList_load_rowH 26 _ rfl (w.heap.size + 1) rfl rfl 26 (cellsOf a2) (0, 0) _ T7.out.2.1 Try.underlying26 rfl info24 ?_))
    refine (HC.out a6 cp6 w43 HL7.out).mono ?_
    rintro e w44 ⟨rfl, b8'⟩
    have T8 := Lib.hid (T7.out.next b8')
    have HL8 := Lib.hid (HL7.out.below b8')
    clear b8' T7 HL7 x0 x1
    have x0 : w44.cell? ⟨w.heap.size, 0, none⟩ = some (.int .i64 (i : Int)) := T8.out.1.cell 0
    have x1 : w44.cell? ⟨w.heap.size, 1, none⟩ = some (.int .i64 (j : Int)) := T8.out.1.cell 1
    go_wp2_with (first | (go_skip) | (refine isload 26 _ (by with_reducible rfl) ?_; refine wpList_load_rowH 26 _ rfl (w.heap.size + 1) rfl rfl 26 (cellsOf a2) (0, 0) _ T8.out.2.1 Try.underlying26 rfl info24 ?_))
    refine (HD.out a6 cp6 w44 HL8.out).mono ?_
    rintro e w45 ⟨rfl, b9'⟩
    have T9 := Lib.hid (T8.out.next b9')
    clear b9' T8
    go_wp2_with fail
    go_ret
    exact ⟨rfl, T9.out.2.2⟩
theorem walk_MergeChains (a0 : Option Addr) (len0 cap0 : Nat) (a1 : Int × Int) (a2 : Nat → Int) (w : World) (w0 : IsVals w a0 len0 cap0) (w1 : FitsP a1) (w2 : Fits a2) :
    Calls Try.prog 8 #[.slice a0 len0 cap0, .agg (cellsP a1), .agg (cellsOf a2)] w fun e w' => e = .returned (.bool true) ∧ Below w.heap.size w w' := by
  by_cases h : chk a2 ≠ 0 ∨ 60 < len0
  · exact bail_MergeChains a0 len0 cap0 a1 a2 w h
  · have hc : chk a2 = 0 := by
      by_cases hc : chk a2 = 0
      · exact hc
      · exact absurd (.inl hc) h
    obtain ⟨-, -, l, hl, hf, hL⟩ := w0
    subst hl
    by_cases hr : reqM l a1 (a2 6) = 0
    · obtain ⟨i, j, s, d, e, hne, hi, hj, hk⟩ := req_in hr
      exact good_MergeChains a0 cap0 l a1 a2 w hc (by omega) hf hL i j s d e hne hi hj hk
    · exact err_MergeChains a0 cap0 l a1 a2 w hc (by omega) hf hL hr
end Go.Proofs.Ytnaheindlkehhaa
