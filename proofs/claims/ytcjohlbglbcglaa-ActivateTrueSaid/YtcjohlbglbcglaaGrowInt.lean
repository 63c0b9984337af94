/- Rings of int: copyTo of a ring without slots; reserve. -/
import Derived.Test.YtcjohlbglbcglaaCopyInt
namespace Go.Proofs.Ytcjohlbglbcglaa
open Go.RowKit
set_option linter.unusedVariables false
set_option maxRecDepth 100000

theorem ri_copyTo_none (b h size m cap : Nat) (D : List Value) (w : World) (hi : RingNew 51 w b size)
    (hD : Blk w h 3 D.toArray) (hDl : D.length = m * 1) (hmc : m ≤ cap) (hcap : cap ≤ 1048576) :
    Calls Try.prog 26 #[.pointer (some ⟨b, 0, none⟩), .slice (some ⟨h, 0, none⟩) m cap] w fun e w' => e = .returned (.tuple #[]) ∧ Blk w' h 3 D.toArray ∧ Kept (fun i => i = h) w w' ∧ w'.heap.size = w.heap.size := by
  obtain ⟨c0, c1, c2, c3, -, -, -⟩ := hi.cells
  obtain ⟨B1, hs1, hs⟩ := hi
  have HB1 := Lib.hid B1
  have HD := Lib.hid hD
  have HDl := Lib.hid hDl
  clear B1 hD hDl
  have hT : (Try.prog.info? 3).map (·.size) = some 1 := by kernel_rfl
  have HT := Lib.hid hT
  clear hT
  go_enter Try.func26, Try.ntmps26
  go_wp2
  go_quiet (fail)
  go_wp2
  refine wp_region_quiet_tail 11 (by kernel_rfl) (by kernel_rfl) ?_
  simp only [List.take_succ_cons, List.take_zero, List.drop_succ_cons, List.drop_zero]
  repeat (go_big_quiet_step (fail))
  refine wpQuiet_nil ?_
  intro _ hw'
  obtain ⟨nr, hw''⟩ := hw'
  subst hw''
  refine wpList_copyK rfl (.tmp 21) (.tmp 31) _ _ rfl 3 Try.underlying22 1 (by omega) HT.out _ _ _ _ _ _ rfl rfl h 0 D 3 HD.out [] 0 (by show 0 = min _ _; omega) rfl
    (fun h0 => by simp at h0) (by simp) (fun v hv => by simp at hv) ?_
  intro W1 HD1 K1 S1
  have hbh : ¬ b = h := Blk.ne_ HB1.out HD.out (by decide)
  have d1 := K1.cell (p := ⟨b, 1, none⟩) hbh (by simpa using c1)
  have d3 := K1.cell (p := ⟨b, 3, none⟩) hbh (by simpa using c3)
  have HS1 := Lib.hid S1
  have HK1 := Lib.hid K1
  clear S1 K1 c1 c3
  go_wp2
  refine wp_region_quiet_tail 14 (by kernel_rfl) (by kernel_rfl) ?_
  simp only [List.take_succ_cons, List.take_zero, List.drop_succ_cons, List.drop_zero]
  repeat (go_big_quiet_step (fail))
  refine wpQuiet_nil ?_
  intro _ hw'
  obtain ⟨ns, hw''⟩ := hw'
  subst hw''
  refine wpList_copyK rfl (.tmp 35) (.tmp 46) _ _ rfl 3 Try.underlying22 1 (by omega) HT.out _ _ _ _ _ _ rfl rfl h 0 _ 3 HD1.out [] 0 (by show 0 = min _ _; omega) rfl
    (fun h0 => by simp at h0) (by simp) (fun v hv => by simp at hv) ?_
  intro W2 HD2 K2 S2
  have hend : Blk W2 h 3 D.toArray ∧ Kept (fun i => i = h) w W2 ∧ W2.heap.size = w.heap.size := by
    refine ⟨?_, ?_, ?_⟩
    · have := HD2.out
      show W2.heap[h]? = _
      simpa [splice] using this
    · exact ((((Kept.refl _ w).drewN nq).drewN nr).trans HK1.out (fun _ _ h => h)).drewN ns |>.trans K2 (fun _ _ h => h)
    · exact S2.trans HS1.out
  have HE := Lib.hid hend
  clear hend S2 K2
  go_wp2
  all_goals
    go_end0
    exact ⟨rfl, HE.out⟩
theorem ri_copyTo_at (b h size c m cap : Nat) (go : Option Nat) (D F : List Value) (w : World) (hi : RingAt 51 3 1 w b go size c F)
    (hD : Blk w h 3 D.toArray) (hDl : D.length = m * 1) (hcm : c ≤ m) (hmc : m ≤ cap) (hcap : cap ≤ 1048576) (hhg : go ≠ some h) :
    Calls Try.prog 26 #[.pointer (some ⟨b, 0, none⟩), .slice (some ⟨h, 0, none⟩) m cap] w fun e w' => e = .returned (.tuple #[]) ∧ Blk w' h 3 (F ++ D.drop F.length).toArray ∧ Kept (fun i => i = h) w w' ∧ w'.heap.size = w.heap.size := by
  obtain ⟨h1, h2, ⟨rfl, rfl, h3⟩ | ⟨g, n, f, C, rfl, h3, h4⟩⟩ := hi
  · obtain rfl : F = [] := List.eq_nil_of_length_eq_zero (by simpa using h1)
    have := ri_copyTo_none b h size m cap D w h3 hD hDl hmc hcap
    simpa using this
  · exact ri_copyTo_some b g h size n f c m cap C D F w h3 h4 h1 h2 hD hDl hcm hmc hcap (fun e => hhg (by rw [e]))

theorem ri_reserve_grow (b size c need n : Nat) (a : Option Addr) (go : Option Nat) (F : List Value) (w : World) (hi : RingAt 51 3 1 w b go size c F) (c1 : w.cell? ⟨b, 1, none⟩ = some (.slice a n n)) (hn : n < need) (hns : n ≤ size) (hcn : c ≤ need) (hneed : need ≤ size) :
    Calls Try.prog 30 #[.pointer (some ⟨b, 0, none⟩), .int .i64 need] w fun e w' => e = .returned (.tuple #[]) ∧
      ∃ n' C, RingIn 51 3 1 w' b w.heap.size size n' 0 c C ∧ Wheel C 0 F ∧ need ≤ n' ∧ Kept (fun i => i = b) w w' := by
  obtain ⟨c0, c3⟩ := hi.cells
  obtain ⟨_, hs1, hs⟩ := hi.size_le
  have hgo : ∀ i, go = some i → i < w.heap.size := fun i e => hi.lt i (.inr e.symm)
  have hbl : b < w.heap.size := hi.lt b (.inl rfl)
  obtain ⟨x2, x3, bx⟩ : ∃ x2 x3, Blk w b 51 #[.int .i64 size, .slice a n n, x2, x3] := by
    obtain ⟨_, _, ⟨rfl, rfl, h1, _⟩ | ⟨g', n', f, C, rfl, ⟨h1, _⟩, _⟩⟩ := hi
    · have := (h1.cell 1).symm.trans c1
      simp only [List.getElem?_toArray, List.getElem?_cons_succ, List.getElem?_cons_zero, Option.some.injEq] at this
      rw [← this]; exact ⟨_, _, h1⟩
    · have := (h1.cell 1).symm.trans c1
      simp only [List.getElem?_toArray, List.getElem?_cons_succ, List.getElem?_cons_zero, Option.some.injEq] at this
      rw [← this]; exact ⟨_, _, h1⟩
  obtain rfl : x3 = .int .i64 c := by
    have := (bx.cell 3).symm.trans c3
    simpa using this
  have hFl := hi.1
  have hFo := hi.2.1
  have HFl := Lib.hid hFl
  have HFo := Lib.hid hFo
  clear hFl hFo
  have HI := Lib.hid hi
  have HX := Lib.hid bx
  clear hi bx
  obtain ⟨n1, hn0, hn00⟩ : ∃ n1 : Nat, (if (need : Int) < 2 * (n : Int) then 2 * (n : Int) else (need : Int)) = (n1 : Int) ∧ need ≤ n1 := by
    by_cases e : (need : Int) < 2 * (n : Int)
    · exact ⟨2 * n, by rw [if_pos e]; omega, by omega⟩
    · exact ⟨need, by rw [if_neg e], by omega⟩
  obtain ⟨n', hn1, hn2, hn3⟩ : ∃ n' : Nat, (if (n1 : Int) < (size : Int) then (n1 : Int) else (size : Int)) = (n' : Int) ∧ need ≤ n' ∧ n' ≤ size := by
    by_cases e : (n1 : Int) < (size : Int)
    · exact ⟨n1, by rw [if_pos e], by omega, by omega⟩
    · exact ⟨size, by rw [if_neg e], by omega, by omega⟩
  have HN0 := Lib.hid hn0
  have HN := Lib.hid hn1
  clear hn1 hn0
  have hT : (Try.prog.info? 3).map (fun i => (i.zero, i.size, i.bytes)) = some (some (.int .i64 0), 1, 8) := by kernel_rfl
  obtain ⟨i0, hi0, hz0, hz1, hz2⟩ := info_parts hT
  have hmk := fun W => run_make_rowN (P := Try.prog) 22 3 i0 _ Try.underlying22 hi0 hz0 .i64 .i64 n' n' (Nat.le_refl _) (by rw [hz2]; omega) (by omega) W
  rw [hz1] at hmk
  have hDo : ∀ v ∈ (madeCells (Value.cells (.int .i64 0)) (n' * 1)).toList, v.oneCell' = true := madeK_one (by decide) (by decide) _
  have hDl : (madeCells (Value.cells (.int .i64 0)) (n' * 1)).toList.length = n' * 1 := by rw [Array.length_toList, size_madeCells]
  have hDe : (madeCells (Value.cells (.int .i64 0)) (n' * 1)) = ((madeCells (Value.cells (.int .i64 0)) (n' * 1)).toList).toArray := by simp
  generalize madeCells (Value.cells (.int .i64 0)) (n' * 1) = D0 at *
  generalize D0.toList = D at *
  subst hDe
  have HDl := Lib.hid hDl
  have HDo := Lib.hid hDo
  clear hT hi0 hz0 hz1 hz2 i0 hDo hDl
  go_enter Try.func30, Try.ntmps30
  go_wp2
  refine wp_region_quiet_tail 13 (by kernel_rfl) (by kernel_rfl) ?_
  simp only [List.take_succ_cons, List.take_zero, List.drop_succ_cons, List.drop_zero]
  repeat (go_big_quiet_step (fail))
  rw [HN0.out, HN.out]
  refine wpQuiet_nil ?_
  intro _ hw'
  obtain ⟨nr, hw''⟩ := hw'
  subst hw''
  go_wp2_with fail
  refine (ri_copyTo_at b _ size c n' n' go D F _ (RingAt.kept (S := fun _ => False) HI.out (((Kept.refl _ w).drewN nr).alloc _) (fun _ _ h => h)) (Blk.new _ _ _) HDl.out (by omega) (by omega) (by omega) (fun e => by have := hgo _ e; simp at this)).mono ?_
  rintro e w1 ⟨rfl, hB1, hK1, hS1⟩
  have hbh : ¬ b = w.heap.size := by omega
  have HB1 : Hid (Blk w1 w.heap.size 3 (F ++ D.drop F.length).toArray) := Lib.hid hB1
  have hK2 : Kept (fun i => i = w.heap.size) w w1 := (((Kept.refl _ w).drewN nr).alloc _).trans hK1 (fun _ _ h => h)
  have HK2 := Lib.hid hK2
  have HX1 : Hid (Blk w1 b 51 #[.int .i64 size, Value.slice a n n, x2, .int .i64 c]) := Lib.hid (HX.out.kept hK2 hbh)
  have d1 := HX1.out.cell 1
  have d2 := HX1.out.cell 2
  have e1 := HX1.out.frozen 1
  have e2 := HX1.out.frozen 2
  clear hB1 hK1 hS1 hK2
  go_wp2
  go_end0
  have hlen : (F ++ D.drop F.length).length = n' * 1 := by
    have h1 := HFl.out
    have h2 := HDl.out
    rw [List.length_append, List.length_drop]
    omega
  refine ⟨rfl, n', F ++ D.drop F.length, ⟨(HX1.out.set_ 1 _).set_ 2 _, (HB1.out.far (Ne.symm hbh) _).far (Ne.symm hbh) _, hlen, by omega, by omega, hn3, hs⟩, Wheel.of_prefix (by rw [hlen]; omega), hn2, ?_⟩
  exact Kept.setCell (S := fun i => i = b) (Kept.setCell (S := fun i => i = b) (HK2.out.more_new) (.inl rfl) _) (.inl rfl) _

/-- reserve: there are slots for 'need' elements behind it. -/
theorem ri_reserve_any (b size c need : Nat) (go : Option Nat) (F : List Value) (w : World) (hi : RingAt 51 3 1 w b go size c F) (h1 : 1 ≤ need) (hcn : c ≤ need) (hneed : need ≤ size) :
    Calls Try.prog 30 #[.pointer (some ⟨b, 0, none⟩), .int .i64 need] w fun e w' => e = .returned (.tuple #[]) ∧
      ∃ g n f C, RingIn 51 3 1 w' b g size n f c C ∧ Wheel C (f * 1) F ∧ need ≤ n ∧ Moved w go (some g) ∧ Kept (fun i => i = b) w w' := by
  have hi' := hi
  obtain ⟨hF, hF1, ⟨rfl, rfl, h3⟩ | ⟨g, n, f, C, rfl, h3, h4⟩⟩ := hi
  · exact (ri_reserve_grow b size 0 need 0 none none F w hi' h3.cells.2.1 (by omega) (by omega) hcn hneed).mono fun e w' ⟨he, n', C, k1, k2, k3, k4⟩ =>
      ⟨he, _, n', 0, C, k1, by rw [Nat.zero_mul]; exact k2, k3, fun i hi => .inr (by injection hi with hi; omega), k4⟩
  · by_cases hn : need ≤ n
    · have c1 := h3.cells.2.1
      have H3 := Lib.hid h3
      have H4 := Lib.hid h4
      have hns := h3.2.2.2.2.2
      clear h3 h4 hi' hF hF1
      go_enter Try.func30, Try.ntmps30
      go_wp2
      refine bodyPost_ret (results_none rfl _ _ _) rfl ?_
      exact ⟨rfl, g, n, f, C, H3.out, H4.out, hn, fun i hi => .inl hi, Kept.refl _ _⟩
    · have hns := h3.2.2.2.2.2.1
      exact (ri_reserve_grow b size c need n _ (some g) F w hi' h3.cells.2.1 (by omega) hns hcn hneed).mono fun e w' ⟨he, n', C, k1, k2, k3, k4⟩ =>
        ⟨he, _, n', 0, C, k1, by rw [Nat.zero_mul]; exact k2, k3, fun i hi => .inr (by injection hi with hi; omega), k4⟩
end Go.Proofs.Ytcjohlbglbcglaa
