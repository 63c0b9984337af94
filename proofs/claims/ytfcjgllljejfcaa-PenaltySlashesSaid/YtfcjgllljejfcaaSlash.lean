/- Slash (written by mkslash.py). -/
import Derived.Test.YtfcjgllljejfcaaAssign
import Derived.Test.YtfcjgllljejfcaaAppend
import Derived.Test.YtfcjgllljejfcaaKept
import Derived.Laws.AppendOwn
namespace Go.Proofs.Ytfcjgllljejfcaa
open Go Go.RowKit
set_option linter.unusedVariables false
set_option linter.unusedSimpArgs false
set_option maxRecDepth 100000

/-- The maker of a request, with the block that its closure holds. -/
theorem request_at (e : Int) (w : World) : Calls Try.prog 26 #[.int .i64 e] w fun o w' => o = .returned (.func (.func 41) #[] #[.pointer (some ⟨w.heap.size, 0, none⟩)]) ∧ w.alloc (.cells #[.int .i64 e] 3) = w' := by
  have hmf := makes_of
  go_enter Try.func26, Try.ntmps26
  go_wp2
  go_ret
  exact ⟨rfl, rfl⟩
theorem owns_three {w : World} {base g : Nat} {e : TypeId} {f1 f2 f3 : Value} (h : Blk w g e #[f1, f2, f3]) (hb : base ≤ g) : w.ownsRow base e 1 (.slice (some ⟨g, 0, none⟩) 3 3) 3 [f1, f2, f3] :=
  ⟨rfl, .inr ⟨g, 3, _, rfl, hb, h, Nat.le_refl _, by unfold maxLen; omega, rfl, rfl⟩⟩
theorem owns_changes {w : World} {base : Nat} {e : TypeId} {v f1 f2 f3 f4 : Value} {e1 e2 e3 e4 : Eff} (h : w.ownsRow base e 1 v (3 + 1) ([f1, f2, f3] ++ [f4])) (h1 : FDoes w f1 e1) (h2 : FDoes w f2 e2) (h3 : FDoes w f3 e3) (h4 : FDoes w f4 e4) :
    ∃ a cap, v = .slice a 4 cap ∧ Changes w a [e1, e2, e3, e4] := by
  obtain ⟨_, h | ⟨g, cap, cur, rfl, _, hg, hc, _, hs, ht⟩⟩ := h
  · omega
  · refine ⟨_, cap, rfl, g, 0, rfl, fun i ef hi => ?_⟩
    have hcell : ∀ j f, ([f1, f2, f3, f4] : List Value)[j]? = some f → w.cell? ⟨g, 0 + j, none⟩ = some f := fun j f hj => by
      rw [Nat.zero_add, show w.cell? ⟨g, j, none⟩ = cur[j]? from cell_of_row w g j cur e (0, 0) hg]
      rw [show ([f1, f2, f3, f4] : List Value) = cur.toList.take ((3 + 1) * 1) from ht.symm] at hj
      rw [List.getElem?_take] at hj
      split at hj
      · rw [← hj]; simp
      · cases hj
    match i, hi with
    | 0, hi => exact ⟨f1, hcell 0 f1 rfl, by simp at hi; subst hi; exact h1⟩
    | 1, hi => exact ⟨f2, hcell 1 f2 rfl, by simp at hi; subst hi; exact h2⟩
    | 2, hi => exact ⟨f3, hcell 2 f3 rfl, by simp at hi; subst hi; exact h3⟩
    | 3, hi => exact ⟨f4, hcell 3 f4 rfl, by simp at hi; subst hi; exact h4⟩
theorem seven_below {w3 w4 w5 w7 : World} {g : Nat} {o : Obj} (E : Below w3.heap.size w3 w4) (D : Below w4.heap.size w4 w5) (S : w4.heap.size = g + 1) (hg : g = w3.heap.size) (h : (w5.alloc o).grownBy w7 (some g)) : Below w3.heap.size w3 w7 := by
  have h1 : Below w3.heap.size w3 w5 := E.trans (D.mono E.size)
  exact below_only (h1.alloc h1.size _) h (Nat.le_trans h1.size (by simp)) (by omega)
theorem seven_facts {w w3 w4 w5 w7 : World} {g : Nat} {o : Obj} {v : Val} {e n : Int} {v7 : Value} {k2 k3 : Array Value} {F2 F3 : Nat} (E : Below w3.heap.size w3 w4) (D : Below w4.heap.size w4 w5) (S : w4.heap.size = g + 1) (hg : g = w3.heap.size) (N : w.heap.size + 2 < g)
    (V4 : VB w4 w.heap.size v) (Z4 : VB w4 (w.heap.size + 2) val0) (B4 : Below w.heap.size w w4) (C5 : w5.cell? ⟨w4.heap.size, 0, none⟩ = some (.int .i64 e)) (f2 : FDoes w3 (.func (.func F2) #[] k2) (passE 7)) (f3 : FDoes w3 (.func (.func F3) #[] k3) (holdE e n))
    (ho : w7.ownsRow g 54 1 v7 (3 + 1) ([.func (.func 33) #[] #[], .func (.func F2) #[] k2, .func (.func F3) #[] k3] ++ [.func (.func 41) #[] #[.pointer (some ⟨w4.heap.size, 0, none⟩)]]))
    (h : (w5.alloc o).grownBy w7 (some g)) : ∃ a cap, v7 = .slice a 4 cap ∧ Changes w7 a [markE, passE 7, holdE e n, requestE e] ∧ VB w7 w.heap.size v ∧ VB w7 (w.heap.size + 2) val0 ∧ Below w.heap.size w w7 := by
  have L7 := seven_below E D S hg h
  have C7 := (Kept.of_grown (S := fun i => i = g) h (fun i hi => Option.some.inj hi)).cell (p := ⟨w4.heap.size, 0, none⟩) (by show ¬ w4.heap.size = g; omega) (cell_alloc_some _ C5)
  obtain ⟨a7, cp7, h1, h2⟩ := owns_changes ho (mark_does.below L7) (f2.below L7) (f3.below L7) (request_does C7)
  have s1 : (some w.heap.size : Option Nat) ≠ some g := by simp; omega
  have s2 : (some (w.heap.size + 2) : Option Nat) ≠ some g := by simp; omega
  have l5 := Nat.le_trans B4.size D.size
  refine ⟨a7, cp7, h1, h2, Blk.grown (Blk.alloc (old_vb V4 D) _) h s1, Blk.grown (Blk.alloc (old_vb Z4 D) _) h s2, below_only ((B4.trans (D.mono B4.size)).alloc l5 _) h ?_ (by omega)⟩
  simp; omega
theorem change_at : ∃ i, Try.prog.info? 54 = some i ∧ i.zero = some .nilFunc ∧ i.size = 1 ∧ i.bytes = 8 := by
  have h : (Try.prog.info? 54).map (fun i => (i.zero, i.size, i.bytes)) = some (some .nilFunc, 1, 8) := by kernel_rfl
  cases hi : Try.prog.info? 54 with
  | none => rw [hi] at h; cases h
  | some i =>
    rw [hi] at h
    simp only [Option.map_some, Option.some.injEq, Prod.mk.injEq] at h
    exact ⟨i, rfl, h.1, h.2.1, h.2.2⟩

set_option maxHeartbeats 1600000 in
theorem slash_other (v : Val) (e q : Int) (ok : Bool) (c : Nat → Int) (w : World) (hv : StOk v) (h0 : 0 ≤ c 11) (h1 : c 11 ≤ 1048576) (hq0 : 0 ≤ q) (hq1 : q ≤ v.bal) (hb : v.bal ≤ 18446744073709551615) (hs : (v.st == 2) = false)
    (hA : ∀ w, Calls Try.prog 9 #[.int .u64 v.bal, .int .u64 (c 18), .int .u64 (c 19)] w fun o w' => o = .returned (.tuple #[.int .u64 q, .bool ok]) ∧ Below w.heap.size w w') :
    Calls Try.prog 17 #[.agg (cellsV v), .int .i64 e, .agg (cellsOf c)] w fun o w' => o = .returned (settleV [markE, passE 7, holdE e (c 11)] q v) ∧ Below w.heap.size w w' := by
  obtain ⟨r, m, hR⟩ : ∃ r m, settleV [markE, passE 7, holdE e (c 11)] q v = ans3 r m := ⟨runE [markE, passE 7, holdE e (c 11)] { v with bal := v.bal - q }, if (runE [markE, passE 7, holdE e (c 11)] { v with bal := v.bal - q }).1 = 0 then q else 0, rfl⟩
  rw [hR]
  have HR := Lib.hid hR
  have HV := Lib.hid hv
  have HA := Lib.hid hA
  have HQ := Lib.hid (And.intro hq0 (And.intro hq1 hb))
  have HS := Lib.hid hs
  have HD := Lib.hid (And.intro h0 h1)
  clear hR hv hA hq0 hq1 hb hs h0 h1
  have V0 : Hid (VB (((w.alloc (.cells (cellsV v) 28)).alloc (.cells (cellsOf c) 30)).alloc (.cells (cellsV val0) 28)) w.heap.size v) := Lib.hid (Blk.alloc (Blk.alloc (Blk.new w _ _) _) _)
  have G0 : Hid (Blk (((w.alloc (.cells (cellsV v) 28)).alloc (.cells (cellsOf c) 30)).alloc (.cells (cellsV val0) 28)) (w.heap.size + 1) 30 (cellsOf c)) := Lib.hid (Blk.alloc (cfg_two _ _ _) _)
  have Z0 : Hid (VB (((w.alloc (.cells (cellsV v) 28)).alloc (.cells (cellsOf c) 30)).alloc (.cells (cellsV val0) 28)) (w.heap.size + 2) val0) := Lib.hid (vb_three _ _ _ _)
  have B0 : Hid (Below w.heap.size w (((w.alloc (.cells (cellsV v) 28)).alloc (.cells (cellsOf c) 30)).alloc (.cells (cellsV val0) 28))) := Lib.hid ((((Below.refl _ _).alloc (Nat.le_refl _) _).alloc (by simp) _).alloc (by simp; omega) _)
  go_enter Try.func17, Try.ntmps17
  go_upto_region 1 with (fail)
  rw [zero_cells]
  generalize ((w.alloc (.cells (cellsV v) 28)).alloc (.cells (cellsOf c) 30)).alloc (.cells (cellsV val0) 28) = W at *
  have a0 : W.cell? ⟨w.heap.size, 0, none⟩ = some (.int .u64 v.bal) := Blk.cell V0.out 0
  have a18 : W.cell? ⟨w.heap.size + 1, 18, none⟩ = some (.int .u64 (c 18)) := G0.out.cell 18
  have a19 : W.cell? ⟨w.heap.size + 1, 19, none⟩ = some (.int .u64 (c 19)) := G0.out.cell 19
  go_wp2_with fail
  refine (HA.out _).mono ?_
  rintro o w1 ⟨rfl, b1⟩
  have V1 := Lib.hid (old_vb V0.out b1)
  have G1 := Lib.hid (G0.out.below b1 G0.out.lt)
  have Z1 := Lib.hid (old_vb Z0.out b1)
  have B1 := Lib.hid (B0.out.trans (b1.mono B0.out.size))
  clear b1 V0 G0 Z0 B0 HA a0 a18 a19
  go_wp2
  refine wp_region_first (fun w' => VB w' w.heap.size v ∧ Blk w' (w.heap.size + 1) 30 (cellsOf c)) 6 3 [1, 2, 3] (by kernel_rfl) (by kernel_rfl) ⟨V1.out, G1.out⟩ ?_
  simp only [List.filterMap_cons, List.filterMap_nil, List.getElem?_toArray, List.getElem?_cons_zero, List.getElem?_cons_succ]
  show wpQuiet _ _ _ _ [_, _, _] _
  iterate 2 (go_big_quiet_step ((intros; rfl)))
  refine q_cell 3 _ ⟨w.heap.size + 1, 11, none⟩ (.int .i64 (c 11)) rfl rfl rfl (fun w h => by simp [go_sem, h]) (fun w h => h.2.cell 11) ?_
  simp only [Act.put, List.setIfInBounds_toArray, List.set_cons_zero, List.set_cons_succ]
  refine wpQuiet_nil ?_
  have D1 : Hid (Below w1.heap.size w1 w1.drew) := Lib.hid (Below.drew (Below.refl _ _))
  refine headF_one (i := 0) (by kernel_rfl) (by omega) ?_
  refine wpOp_at rfl rfl (wp_call_at rfl #[.int .i64 7] (by kernel_rfl) Try.call27 ((pass_any 7 (by decide) w1.drew).mono ?_))
  rintro o w2 ⟨k2, rfl, f2, b2⟩
  have D2 : Hid (Below w1.heap.size w1 w2) := Lib.hid (D1.out.trans (b2.mono D1.out.size))
  clear b2
  refine ⟨_, rfl, ⟨old_vb V1.out D2.out, G1.out.below D2.out G1.out.lt⟩, ?_⟩
  refine headF_one (i := 4) (by kernel_rfl) (by omega) ?_
  simp only [Act.put, List.getElem_toArray, List.getElem_cons_zero, List.getElem_cons_succ, List.setIfInBounds_toArray, List.set_cons_zero, List.set_cons_succ]
  refine wpOp_at rfl rfl (wp_call_at rfl #[.int .i64 e, .int .i64 (c 11)] (by kernel_rfl) Try.call29 ((hold_any e (c 11) HD.out.1 (by have := HD.out.2; omega) w2).mono ?_))
  rintro o w3 ⟨k3, rfl, f3, b3⟩
  have D3 : Hid (Below w1.heap.size w1 w3) := Lib.hid (D2.out.trans (b3.mono D2.out.size))
  replace f2 := f2.below b3
  clear b3
  refine ⟨_, rfl, ⟨old_vb V1.out D3.out, G1.out.below D3.out G1.out.lt⟩, ?_⟩
  refine headF_one (i := 5) (by kernel_rfl) (by omega) ?_
  simp only [Act.put, List.getElem_toArray, List.getElem_cons_zero, List.getElem_cons_succ, List.setIfInBounds_toArray, List.set_cons_zero, List.set_cons_succ]
  refine wpOp_at rfl rfl (wp_buildSlice_three 62 54 _ (.tmp 22) (.tmp 26) _ _ (.func (.func 33) #[] #[]) (.func (.func 43) #[] k2) (.func (.func 46) #[] k3) rfl rfl rfl rfl Try.underlying62 change_info rfl rfl rfl rfl ?_)
  have b4 : Below w3.heap.size w3 (w3.alloc (.cells #[.func (.func 33) #[] #[], .func (.func 43) #[] k2, .func (.func 46) #[] k3] 54)) := (Below.refl _ _).alloc (Nat.le_refl _) _
  have D4 : Hid (Below w1.heap.size w1 (w3.alloc (.cells #[.func (.func 33) #[] #[], .func (.func 43) #[] k2, .func (.func 46) #[] k3] 54))) := Lib.hid (D3.out.trans (b4.mono D3.out.size))
  have R4 : Hid (Blk (w3.alloc (.cells #[.func (.func 33) #[] #[], .func (.func 43) #[] k2, .func (.func 46) #[] k3] 54)) w3.heap.size 54 _) := Lib.hid (Blk.new w3 _ _)
  refine ⟨⟨old_vb V1.out D4.out, G1.out.below D4.out G1.out.lt⟩, ?_⟩
  show Region.seqB _ _ _ _ _ = true ∧ _
  refine ⟨by kernel_rfl, ?_⟩
  simp only [Act.put, List.getElem_toArray, List.getElem_cons_zero, List.getElem_cons_succ, List.setIfInBounds_toArray, List.set_cons_zero, List.set_cons_succ, List.drop_succ_cons, List.drop_zero]
  have F2 := Lib.hid f2
  have F3 := Lib.hid f3
  have E4 := Lib.hid b4
  have N3 : Hid (w.heap.size + 2 < w3.heap.size) := Lib.hid (Nat.lt_of_lt_of_le Z1.out.lt D3.out.size)
  have V4 := Lib.hid (old_vb V1.out D4.out)
  have Z4 := Lib.hid (old_vb Z1.out D4.out)
  have B4 := Lib.hid (B1.out.trans (D4.out.mono B1.out.size))
  have N1 := Lib.hid B1.out.size
  have S4 : Hid ((w3.alloc (.cells #[.func (.func 33) #[] #[], .func (.func 43) #[] k2, .func (.func 46) #[] k3] 54)).heap.size = w3.heap.size + 1) := Lib.hid (by simp)
  clear f2 f3 b4 D1 D2 D3 D4 V1 G1 Z1 B1
  generalize w3.alloc (.cells #[.func (.func 33) #[] #[], .func (.func 43) #[] k2, .func (.func 46) #[] k3] 54) = w4 at *
  obtain ⟨g, hg⟩ : ∃ g, g = w3.heap.size := ⟨_, rfl⟩
  rw [← hg] at R4 N3 S4 ⊢
  have HG := Lib.hid hg
  clear hg
  have c4 : w4.cell? ⟨w.heap.size, 1, none⟩ = some (.int .i64 v.st) := Blk.cell V4.out 1
  have CG : Hid (Changes w4 (some ⟨g, 0, none⟩) [markE, passE 7, holdE e (c 11)]) := Lib.hid (changes_three R4.out (mark_does.below E4.out) (F2.out.below E4.out) (F3.out.below E4.out))
  have s2 : (v.st == 2) = false := HS.out
  have HC := Lib.hid (settle_any [markE, passE 7, holdE e (c 11)] (some ⟨g, 0, none⟩) 3 q v w4 HV.out HQ.out.1 HQ.out.2.1 HQ.out.2.2 (by simp) CG.out)
  rw [HR.out] at HC
  clear CG F2 F3 E4 R4
  go_wp2
  refine NoPanic.normal ?_
  go_wp2_with (first | (refine wpList_load_row rfl 28 _ rfl w.heap.size rfl 28 _ (0, 0) _ V4.out Try.underlying28 rfl infoV ?_) | fail)
  refine HC.out.mono ?_
  rintro o w5 ⟨rfl, b5⟩
  have Z5 : Hid (VB w5 (w.heap.size + 2) val0) := Lib.hid (old_vb Z4.out b5)
  have B5 : Hid (Below w.heap.size w w5) := Lib.hid (B4.out.trans (b5.mono B4.out.size))
  clear b5 Z4 B4 V4 HC c4
  unfold ans3
  go_wp2_with (first | (refine wpList_store_row rfl _ _ _ rfl (w.heap.size + 2) (cellsV r.2) rfl rfl 28 _ Z5.out infoV rfl (cellsV_one r.2) ?_))
  exact bodyPost_ret (v := ans3 r m) (results_cell_row3 (fn := Try.f17) rfl _ _ (w.heap.size + 2) 28 _ (0, 0) _ rfl (setRow_heap _ _ _ _ _ _ Z5.out) Try.underlying28 rfl infoV) rfl ⟨rfl, below_setRow B5.out (by omega) _⟩

set_option maxHeartbeats 1600000 in
theorem slash_active (v : Val) (e q : Int) (ok : Bool) (c : Nat → Int) (w : World) (hv : StOk v) (h0 : 0 ≤ c 11) (h1 : c 11 ≤ 1048576) (hq0 : 0 ≤ q) (hq1 : q ≤ v.bal) (hb : v.bal ≤ 18446744073709551615) (hs : (v.st == 2) = true)
    (hA : ∀ w, Calls Try.prog 9 #[.int .u64 v.bal, .int .u64 (c 18), .int .u64 (c 19)] w fun o w' => o = .returned (.tuple #[.int .u64 q, .bool ok]) ∧ Below w.heap.size w w') :
    Calls Try.prog 17 #[.agg (cellsV v), .int .i64 e, .agg (cellsOf c)] w fun o w' => o = .returned (settleV [markE, passE 7, holdE e (c 11), requestE e] q v) ∧ Below w.heap.size w w' := by
  obtain ⟨r, m, hR⟩ : ∃ r m, settleV [markE, passE 7, holdE e (c 11), requestE e] q v = ans3 r m := ⟨runE [markE, passE 7, holdE e (c 11), requestE e] { v with bal := v.bal - q }, if (runE [markE, passE 7, holdE e (c 11), requestE e] { v with bal := v.bal - q }).1 = 0 then q else 0, rfl⟩
  rw [hR]
  have HR := Lib.hid hR
  have HV := Lib.hid hv
  have HA := Lib.hid hA
  have HQ := Lib.hid (And.intro hq0 (And.intro hq1 hb))
  have HS := Lib.hid hs
  have HD := Lib.hid (And.intro h0 h1)
  clear hR hv hA hq0 hq1 hb hs h0 h1
  have V0 : Hid (VB (((w.alloc (.cells (cellsV v) 28)).alloc (.cells (cellsOf c) 30)).alloc (.cells (cellsV val0) 28)) w.heap.size v) := Lib.hid (Blk.alloc (Blk.alloc (Blk.new w _ _) _) _)
  have G0 : Hid (Blk (((w.alloc (.cells (cellsV v) 28)).alloc (.cells (cellsOf c) 30)).alloc (.cells (cellsV val0) 28)) (w.heap.size + 1) 30 (cellsOf c)) := Lib.hid (Blk.alloc (cfg_two _ _ _) _)
  have Z0 : Hid (VB (((w.alloc (.cells (cellsV v) 28)).alloc (.cells (cellsOf c) 30)).alloc (.cells (cellsV val0) 28)) (w.heap.size + 2) val0) := Lib.hid (vb_three _ _ _ _)
  have B0 : Hid (Below w.heap.size w (((w.alloc (.cells (cellsV v) 28)).alloc (.cells (cellsOf c) 30)).alloc (.cells (cellsV val0) 28))) := Lib.hid ((((Below.refl _ _).alloc (Nat.le_refl _) _).alloc (by simp) _).alloc (by simp; omega) _)
  go_enter Try.func17, Try.ntmps17
  go_upto_region 1 with (fail)
  rw [zero_cells]
  generalize ((w.alloc (.cells (cellsV v) 28)).alloc (.cells (cellsOf c) 30)).alloc (.cells (cellsV val0) 28) = W at *
  have a0 : W.cell? ⟨w.heap.size, 0, none⟩ = some (.int .u64 v.bal) := Blk.cell V0.out 0
  have a18 : W.cell? ⟨w.heap.size + 1, 18, none⟩ = some (.int .u64 (c 18)) := G0.out.cell 18
  have a19 : W.cell? ⟨w.heap.size + 1, 19, none⟩ = some (.int .u64 (c 19)) := G0.out.cell 19
  go_wp2_with fail
  refine (HA.out _).mono ?_
  rintro o w1 ⟨rfl, b1⟩
  have V1 := Lib.hid (old_vb V0.out b1)
  have G1 := Lib.hid (G0.out.below b1 G0.out.lt)
  have Z1 := Lib.hid (old_vb Z0.out b1)
  have B1 := Lib.hid (B0.out.trans (b1.mono B0.out.size))
  clear b1 V0 G0 Z0 B0 HA a0 a18 a19
  go_wp2
  refine wp_region_first (fun w' => VB w' w.heap.size v ∧ Blk w' (w.heap.size + 1) 30 (cellsOf c)) 6 3 [1, 2, 3] (by kernel_rfl) (by kernel_rfl) ⟨V1.out, G1.out⟩ ?_
  simp only [List.filterMap_cons, List.filterMap_nil, List.getElem?_toArray, List.getElem?_cons_zero, List.getElem?_cons_succ]
  show wpQuiet _ _ _ _ [_, _, _] _
  iterate 2 (go_big_quiet_step ((intros; rfl)))
  refine q_cell 3 _ ⟨w.heap.size + 1, 11, none⟩ (.int .i64 (c 11)) rfl rfl rfl (fun w h => by simp [go_sem, h]) (fun w h => h.2.cell 11) ?_
  simp only [Act.put, List.setIfInBounds_toArray, List.set_cons_zero, List.set_cons_succ]
  refine wpQuiet_nil ?_
  have D1 : Hid (Below w1.heap.size w1 w1.drew) := Lib.hid (Below.drew (Below.refl _ _))
  refine headF_one (i := 0) (by kernel_rfl) (by omega) ?_
  refine wpOp_at rfl rfl (wp_call_at rfl #[.int .i64 7] (by kernel_rfl) Try.call27 ((pass_any 7 (by decide) w1.drew).mono ?_))
  rintro o w2 ⟨k2, rfl, f2, b2⟩
  have D2 : Hid (Below w1.heap.size w1 w2) := Lib.hid (D1.out.trans (b2.mono D1.out.size))
  clear b2
  refine ⟨_, rfl, ⟨old_vb V1.out D2.out, G1.out.below D2.out G1.out.lt⟩, ?_⟩
  refine headF_one (i := 4) (by kernel_rfl) (by omega) ?_
  simp only [Act.put, List.getElem_toArray, List.getElem_cons_zero, List.getElem_cons_succ, List.setIfInBounds_toArray, List.set_cons_zero, List.set_cons_succ]
  refine wpOp_at rfl rfl (wp_call_at rfl #[.int .i64 e, .int .i64 (c 11)] (by kernel_rfl) Try.call29 ((hold_any e (c 11) HD.out.1 (by have := HD.out.2; omega) w2).mono ?_))
  rintro o w3 ⟨k3, rfl, f3, b3⟩
  have D3 : Hid (Below w1.heap.size w1 w3) := Lib.hid (D2.out.trans (b3.mono D2.out.size))
  replace f2 := f2.below b3
  clear b3
  refine ⟨_, rfl, ⟨old_vb V1.out D3.out, G1.out.below D3.out G1.out.lt⟩, ?_⟩
  refine headF_one (i := 5) (by kernel_rfl) (by omega) ?_
  simp only [Act.put, List.getElem_toArray, List.getElem_cons_zero, List.getElem_cons_succ, List.setIfInBounds_toArray, List.set_cons_zero, List.set_cons_succ]
  refine wpOp_at rfl rfl (wp_buildSlice_three 62 54 _ (.tmp 22) (.tmp 26) _ _ (.func (.func 33) #[] #[]) (.func (.func 43) #[] k2) (.func (.func 46) #[] k3) rfl rfl rfl rfl Try.underlying62 change_info rfl rfl rfl rfl ?_)
  have b4 : Below w3.heap.size w3 (w3.alloc (.cells #[.func (.func 33) #[] #[], .func (.func 43) #[] k2, .func (.func 46) #[] k3] 54)) := (Below.refl _ _).alloc (Nat.le_refl _) _
  have D4 : Hid (Below w1.heap.size w1 (w3.alloc (.cells #[.func (.func 33) #[] #[], .func (.func 43) #[] k2, .func (.func 46) #[] k3] 54))) := Lib.hid (D3.out.trans (b4.mono D3.out.size))
  have R4 : Hid (Blk (w3.alloc (.cells #[.func (.func 33) #[] #[], .func (.func 43) #[] k2, .func (.func 46) #[] k3] 54)) w3.heap.size 54 _) := Lib.hid (Blk.new w3 _ _)
  refine ⟨⟨old_vb V1.out D4.out, G1.out.below D4.out G1.out.lt⟩, ?_⟩
  show Region.seqB _ _ _ _ _ = true ∧ _
  refine ⟨by kernel_rfl, ?_⟩
  simp only [Act.put, List.getElem_toArray, List.getElem_cons_zero, List.getElem_cons_succ, List.setIfInBounds_toArray, List.set_cons_zero, List.set_cons_succ, List.drop_succ_cons, List.drop_zero]
  have F2 := Lib.hid f2
  have F3 := Lib.hid f3
  have E4 := Lib.hid b4
  have N3 : Hid (w.heap.size + 2 < w3.heap.size) := Lib.hid (Nat.lt_of_lt_of_le Z1.out.lt D3.out.size)
  have V4 := Lib.hid (old_vb V1.out D4.out)
  have Z4 := Lib.hid (old_vb Z1.out D4.out)
  have B4 := Lib.hid (B1.out.trans (D4.out.mono B1.out.size))
  have N1 := Lib.hid B1.out.size
  have S4 : Hid ((w3.alloc (.cells #[.func (.func 33) #[] #[], .func (.func 43) #[] k2, .func (.func 46) #[] k3] 54)).heap.size = w3.heap.size + 1) := Lib.hid (by simp)
  clear f2 f3 b4 D1 D2 D3 D4 V1 G1 Z1 B1
  generalize w3.alloc (.cells #[.func (.func 33) #[] #[], .func (.func 43) #[] k2, .func (.func 46) #[] k3] 54) = w4 at *
  obtain ⟨g, hg⟩ : ∃ g, g = w3.heap.size := ⟨_, rfl⟩
  rw [← hg] at R4 N3 S4 ⊢
  have HG := Lib.hid hg
  clear hg
  have c4 : w4.cell? ⟨w.heap.size, 1, none⟩ = some (.int .i64 v.st) := Blk.cell V4.out 1
  have s2 : (v.st == 2) = true := HS.out
  obtain ⟨ci, hci, hz0, hz1, hz2⟩ := change_at
  have HI := Lib.hid (And.intro hci (And.intro hz0 (And.intro hz1 hz2)))
  clear hci hz0 hz1 hz2
  have RQ := Lib.hid (request_at e w4)
  go_wp2
  refine NoPanic.normal ?_
  go_wp2_with fail
  refine RQ.out.mono ?_
  rintro o w5 ⟨rfl, hw5⟩
  have C5 : Hid (w5.cell? ⟨w4.heap.size, 0, none⟩ = some (.int .i64 e)) := Lib.hid (by rw [← hw5]; exact (Blk.new w4 3 _).cell 0)
  have R5 := Lib.hid (show Blk w5 g 54 _ by rw [← hw5]; exact R4.out.alloc _)
  have D5 : Hid (Below w4.heap.size w4 w5) := Lib.hid (by rw [← hw5]; exact (Below.refl _ _).alloc (Nat.le_refl _) _)
  have S5 : Hid (w5.heap.size = w4.heap.size + 1) := Lib.hid (by rw [← hw5]; simp)
  clear hw5 RQ R4 c4
  go_wp2_with (first | (at_builtin; refine wpList_append_own _ rfl (.tmp 31) (.tmp 34) 62 rfl g 54 ci _ 1 8 Try.underlying62 HI.out.1 HI.out.2.1 HI.out.2.2.1 HI.out.2.2.2 rfl Nat.one_pos _ 3 _ rfl (owns_three (R5.out.alloc _) (Nat.le_refl _)) ⟨w5.heap.size, 0, none⟩ 1 1 [.func (.func 41) #[] #[.pointer (some ⟨w4.heap.size, 0, none⟩)]] rfl rfl (fun j u hj => by rw [add_plain, Nat.zero_add, Blk.cell (Blk.new w5 54 #[.func (.func 41) #[] #[.pointer (some ⟨w4.heap.size, 0, none⟩)]]) j]; simpa using hj) (by simp [Value.oneCell']) (by unfold maxLen; omega) (by omega) (by have := S4.out; have := S5.out; simp; omega) ?_; intro v7 w7 ho7 hg7 ha7; obtain ⟨a7, cp7, rfl, CH7, v7, z7, b7⟩ := seven_facts E4.out D5.out S4.out HG.out N3.out V4.out Z4.out B4.out C5.out F2.out F3.out ho7 hg7; have V7 := Lib.hid v7; have Z7 := Lib.hid z7; have B7 := Lib.hid b7; clear v7 z7 b7; have HC := Lib.hid (settle_any [markE, passE 7, holdE e (c 11), requestE e] a7 cp7 q v w7 HV.out HQ.out.1 HQ.out.2.1 HQ.out.2.2 (by simp) CH7); rw [HR.out] at HC; clear ho7 hg7 ha7 CH7 HI C5 R5 D5 S5 V4 Z4 B4) | (refine wpList_load_row rfl 28 _ rfl w.heap.size rfl 28 _ (0, 0) _ V7.out Try.underlying28 rfl infoV ?_))
  refine HC.out.mono ?_
  rintro o w8 ⟨rfl, b8⟩
  have Z8 : Hid (VB w8 (w.heap.size + 2) val0) := Lib.hid (old_vb Z7.out b8)
  have B8 : Hid (Below w.heap.size w w8) := Lib.hid (B7.out.trans (b8.mono B7.out.size))
  clear b8 Z7 B7 V7 HC
  unfold ans3
  go_wp2_with (first | (refine wpList_store_row rfl _ _ _ rfl (w.heap.size + 2) (cellsV r.2) rfl rfl 28 _ Z8.out infoV rfl (cellsV_one r.2) ?_))
  exact bodyPost_ret (v := ans3 r m) (results_cell_row3 (fn := Try.f17) rfl _ _ (w.heap.size + 2) 28 _ (0, 0) _ rfl (setRow_heap _ _ _ _ _ _ Z8.out) Try.underlying28 rfl infoV) rfl ⟨rfl, below_setRow B8.out (by omega) _⟩
end Go.Proofs.Ytfcjgllljejfcaa
