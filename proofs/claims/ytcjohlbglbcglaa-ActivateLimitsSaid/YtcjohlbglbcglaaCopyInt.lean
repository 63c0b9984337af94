/- Rings of int: copyTo. -/
import Derived.Test.YtcjohlbglbcglaaOpsInt
import Derived.Outline
namespace Go.Proofs.Ytcjohlbglbcglaa
open Go.RowKit
set_option linter.unusedVariables false
set_option maxRecDepth 100000

theorem ri_copyTo_some (b g h size n f c m cap : Nat) (C D F : List Value) (w : World) (hi : RingIn 51 3 1 w b g size n f c C) (hw : Wheel C (f * 1) F) (hF : F.length = c * 1) (h1 : ∀ v ∈ F, v.oneCell' = true)
    (hD : Blk w h 3 D.toArray) (hDl : D.length = m * 1) (hcm : c ≤ m) (hmc : m ≤ cap) (hcap : cap ≤ 1048576) (hhg : h ≠ g) :
    Calls Try.prog 26 #[.pointer (some ⟨b, 0, none⟩), .slice (some ⟨h, 0, none⟩) m cap] w fun e w' => e = .returned (.tuple #[]) ∧ Blk w' h 3 (F ++ D.drop F.length).toArray ∧ Kept (fun i => i = h) w w' ∧ w'.heap.size = w.heap.size := by
  obtain ⟨c0, c1, c2, c3, -, -, -⟩ := hi.cells
  obtain ⟨B1, B2, hC, hfn, hcn, hns, hs⟩ := hi
  have HB1 := Lib.hid B1
  have HB2 := Lib.hid B2
  have HD := Lib.hid hD
  have HDl := Lib.hid hDl
  have HF := Lib.hid hF
  have HC := Lib.hid hC
  have H1 := Lib.hid h1
  clear B1 B2 hD hDl hF hC h1
  have hw : Wheel C f F := by first | exact hw | (rw [Nat.mul_one] at hw; exact hw)
  have HW := Lib.hid hw
  have hT : (Try.prog.info? 3).map (·.size) = some 1 := by kernel_rfl
  obtain ⟨u, hu1, hu2, hu3⟩ : ∃ u, u ≤ c ∧ f + u ≤ n ∧ (u = c ∨ f + u = n) := by
    by_cases hfc : f + c ≤ n
    · exact ⟨c, by omega, hfc, .inl rfl⟩
    · exact ⟨n - f, by omega, by omega, .inr (by omega)⟩
  have HT := Lib.hid hT
  clear hw hT
  by_cases hfc : f + c ≤ n
  · have hle : ((f : Int) + (c : Int)) ≤ (n : Int) := by omega
    obtain rfl : u = c := by omega
    go_enter Try.func26, Try.ntmps26
    go_wp2
    go_quiet (fail)
    go_wp2
    refine wp_region_quiet_tail 11 (by kernel_rfl) (by kernel_rfl) ?_
    simp only [List.take_succ_cons, List.take_zero, List.drop_succ_cons, List.drop_zero]
    repeat (go_big_quiet_step (fail))
    refine wpQuiet_nil ?_
    intro _ hw'
    obtain ⟨nr, hw''⟩ := hw'
    subst hw''
    have l1 : (F.take u).length = u * 1 := by have := HF.out; simp; omega
    refine wpList_copyK rfl (.tmp 21) (.tmp 31) _ _ rfl 3 Try.underlying22 1 (by omega) HT.out _ _ _ _ _ _ rfl rfl h 0 D 3 HD.out (F.take u) u (by show u = min _ _; omega) l1
      (fun _ => ⟨rfl, _, rfl, row_src HB2.out HW.out (by have := HC.out; omega)⟩) (by have := HDl.out; omega) (fun v hv => H1.out v (List.mem_of_mem_take hv)) ?_
    intro W1 HD1 K1 S1
    have hbh : ¬ b = h := Blk.ne_ HB1.out HD.out (by decide)
    have d1 := K1.cell (p := ⟨b, 1, none⟩) hbh (by simpa using c1)
    have d3 := K1.cell (p := ⟨b, 3, none⟩) hbh (by simpa using c3)
    have HL1 := Lib.hid l1
    have HS1 := Lib.hid S1
    have HK1 := Lib.hid K1
    have HB2' : Hid (Blk W1 g 3 C.toArray) := Lib.hid (Blk.kept (w := (w.drewN nq).drewN nr) HB2.out K1 (Ne.symm hhg))
    clear l1 S1 K1 c1 c3
    go_wp2
    refine wp_region_quiet_tail 14 (by kernel_rfl) (by kernel_rfl) ?_
    simp only [List.take_succ_cons, List.take_zero, List.drop_succ_cons, List.drop_zero]
    repeat (go_big_quiet_step (fail))
    refine wpQuiet_nil ?_
    intro _ hw'
    obtain ⟨ns, hw''⟩ := hw'
    subst hw''
    refine wpList_copyK rfl (.tmp 35) (.tmp 46) _ _ rfl 3 Try.underlying22 1 (by omega) HT.out _ _ _ _ _ _ rfl rfl h u _ 3 HD1.out (F.drop u) 0 (by show 0 = min _ _; omega) (by have := HF.out; simp; omega)
      (fun h0 => by have := HF.out; simp at h0; omega) (by rw [length_splice _ _ _ (by have := HF.out; have := HDl.out; simp; omega)]; have := HF.out; have := HDl.out; simp; omega) (fun v hv => H1.out v (List.mem_of_mem_drop hv)) ?_
    intro W2 HD2 K2 S2
    have HS2 := Lib.hid S2
    have HK2 := Lib.hid K2
    clear S2 K2
    have hend : Blk W2 h 3 (F ++ D.drop F.length).toArray ∧ Kept (fun i => i = h) w W2 ∧ W2.heap.size = w.heap.size := by
      refine ⟨?_, ?_, ?_⟩
      · have := HD2.out
        rw [splice_two (by have := HF.out; have := HDl.out; omega) (by have := HF.out; omega)] at this
        exact this
      · exact ((((Kept.refl _ w).drewN nq).drewN nr).trans HK1.out (fun _ _ h => h)).drewN ns |>.trans HK2.out (fun _ _ h => h)
      · exact HS2.out.trans HS1.out
    have HE := Lib.hid hend
    clear hend
    go_wp2
    all_goals
      go_end0
      exact ⟨rfl, HE.out⟩
  · have hle : ¬ ((f : Int) + (c : Int)) ≤ (n : Int) := by omega
    have hlt : (n : Int) < (f : Int) + (c : Int) := by omega
    obtain rfl : n = f + u := by omega
    go_enter Try.func26, Try.ntmps26
    go_wp2
    go_quiet (fail)
    go_wp2
    refine wp_region_quiet_tail 11 (by kernel_rfl) (by kernel_rfl) ?_
    simp only [List.take_succ_cons, List.take_zero, List.drop_succ_cons, List.drop_zero]
    repeat (go_big_quiet_step (fail))
    refine wpQuiet_nil ?_
    intro _ hw'
    obtain ⟨nr, hw''⟩ := hw'
    subst hw''
    have l1 : (F.take u).length = u * 1 := by have := HF.out; simp; omega
    refine wpList_copyK rfl (.tmp 21) (.tmp 31) _ _ rfl 3 Try.underlying22 1 (by omega) HT.out _ _ _ _ _ _ rfl rfl h 0 D 3 HD.out (F.take u) u (by show u = min _ _; omega) l1
      (fun _ => ⟨rfl, _, rfl, row_src HB2.out HW.out (by have := HC.out; omega)⟩) (by have := HDl.out; omega) (fun v hv => H1.out v (List.mem_of_mem_take hv)) ?_
    intro W1 HD1 K1 S1
    have hbh : ¬ b = h := Blk.ne_ HB1.out HD.out (by decide)
    have d1 := K1.cell (p := ⟨b, 1, none⟩) hbh (by simpa using c1)
    have d3 := K1.cell (p := ⟨b, 3, none⟩) hbh (by simpa using c3)
    have HL1 := Lib.hid l1
    have HS1 := Lib.hid S1
    have HK1 := Lib.hid K1
    have HB2' : Hid (Blk W1 g 3 C.toArray) := Lib.hid (Blk.kept (w := (w.drewN nq).drewN nr) HB2.out K1 (Ne.symm hhg))
    clear l1 S1 K1 c1 c3
    go_wp2
    refine wp_region_quiet_tail 14 (by kernel_rfl) (by kernel_rfl) ?_
    simp only [List.take_succ_cons, List.take_zero, List.drop_succ_cons, List.drop_zero]
    repeat (go_big_quiet_step (fail))
    refine wpQuiet_nil ?_
    intro _ hw'
    obtain ⟨ns, hw''⟩ := hw'
    subst hw''
    have e : C.length - f = u := by have := HC.out; omega
    have hx := row_src2 HB2'.out HW.out
    rw [e] at hx
    refine wpList_copyK rfl (.tmp 35) (.tmp 46) _ _ rfl 3 Try.underlying22 1 (by omega) HT.out _ _ _ _ _ _ rfl rfl h u _ 3 HD1.out (F.drop u) (c - u) (by show c - u = min _ _; omega) (by have := HF.out; simp; omega)
      (fun _ => ⟨rfl, _, rfl, hx⟩) (by rw [length_splice _ _ _ (by have := HF.out; have := HDl.out; simp; omega)]; have := HF.out; have := HDl.out; simp; omega) (fun v hv => H1.out v (List.mem_of_mem_drop hv)) ?_
    clear hx e
    intro W2 HD2 K2 S2
    have HS2 := Lib.hid S2
    have HK2 := Lib.hid K2
    clear S2 K2
    have hend : Blk W2 h 3 (F ++ D.drop F.length).toArray ∧ Kept (fun i => i = h) w W2 ∧ W2.heap.size = w.heap.size := by
      refine ⟨?_, ?_, ?_⟩
      · have := HD2.out
        rw [splice_two (by have := HF.out; have := HDl.out; omega) (by have := HF.out; omega)] at this
        exact this
      · exact ((((Kept.refl _ w).drewN nq).drewN nr).trans HK1.out (fun _ _ h => h)).drewN ns |>.trans HK2.out (fun _ _ h => h)
      · exact HS2.out.trans HS1.out
    have HE := Lib.hid hend
    clear hend
    go_wp2
    all_goals
      go_end0
      exact ⟨rfl, HE.out⟩
end Go.Proofs.Ytcjohlbglbcglaa
