/- Part 4 of 29: L04CopyReq L04GrowReq L04AllDuo L04AllReq Long. -/
import Derived.Test.YtobgbcdgffgdhaaGreatZu03
namespace Go.Proofs.YtobgbcdgffgdhaaGreat
set_option linter.unusedVariables false
set_option linter.unusedSimpArgs false
section
set_option maxRecDepth 100000
open Go.RowKit
theorem rq_copyTo_some (b g h size n f c m cap : Nat) (C D F : List Value) (w : World) (hi : RingIn 154 119 2 w b g size n f c C) (hw : Wheel C (f * 2) F) (hF : F.length = c * 2) (h1 : ∀ v ∈ F, v.oneCell' = true)
  (hD : Blk w h 119 D.toArray) (hDl : D.length = m * 2) (hcm : c ≤ m) (hmc : m ≤ cap) (hcap : cap ≤ 1048576) (hhg : h ≠ g) :
  Calls Tryz.prog 96 #[.pointer (some ⟨b, 0, none⟩), .slice (some ⟨h, 0, none⟩) m cap] w fun e w' => e = .returned (.tuple #[]) ∧ Blk w' h 119 (F ++ D.drop F.length).toArray ∧ Kept (fun i => i = h) w w' ∧ w'.heap.size = w.heap.size := by
 obtain ⟨c0, c1, c2, c3, -, -, -⟩ := hi.cells
 obtain ⟨B1, B2, hC, hfn, hcn, hns, hs⟩ := hi
 have HB1 := Lib.hid B1
 have HB2 := Lib.hid B2
 have HD := Lib.hid hD
 have HDl := Lib.hid hDl
 have HF := Lib.hid hF
 have HC := Lib.hid hC
 have H1 := Lib.hid h1
 clear B1 B2 hD hDl hF hC h1
 have hw : Wheel C (f * 2) F := by first | exact hw | (rw [Nat.mul_one] at hw; exact hw)
 have HW := Lib.hid hw
 have hT : (Tryz.prog.info? 119).map (·.size) = some 2 := by kernel_rfl
 obtain ⟨u, hu1, hu2, hu3⟩ : ∃ u, u ≤ c ∧ f + u ≤ n ∧ (u = c ∨ f + u = n) := by
  by_cases hfc : f + c ≤ n
  ·exact ⟨c, by omega, hfc, .inl rfl⟩
  ·exact ⟨n - f, by omega, by omega, .inr (by omega)⟩
 have HT := Lib.hid hT
 clear hw hT
 by_cases hfc : f + c ≤ n
 ·have hle : ((f : Int) + (c : Int)) ≤ (n : Int) := by omega
  obtain rfl : u = c := by omega
  go_enter Tryz.func96, Tryz.ntmps96
  go_wp2
  go_quiet (fail)
  go_wp2
  refine wqT 11 ?_
  simp only [List.take_succ_cons, List.take_zero, List.drop_succ_cons, List.drop_zero]
  repeat (go_big_quiet_step (fail))
  refine wpQuiet_nil ?_
  intro _ hw'
  obtain ⟨nr, hw''⟩ := hw'
  subst hw''
  have l1 : (F.take (u * 2)).length = u * 2 := by have := HF.out; simp; omega
  refine wpList_copyK rfl (.tmp 21) (.tmp 31) _ _ rfl 119 Tryz.underlying26 2 (by omega) HT.out _ _ _ _ _ _ rfl rfl h 0 D 119 HD.out (F.take (u * 2)) u (by show u = min _ _; omega) l1
   (fun _ => ⟨rfl, _, rfl, row_src HB2.out HW.out (by have := HC.out; omega)⟩) (by have := HDl.out; omega) (fun v hv => H1.out v (List.mem_of_mem_take hv)) ?_
  intro W1 HD1 K1 S1
  have hbh : ¬ b = h := Blk.ne_ HB1.out HD.out (by decide)
  have d1 := K1.cell (p := ⟨b, 1, none⟩) hbh (by simpa using c1)
  have d3 := K1.cell (p := ⟨b, 3, none⟩) hbh (by simpa using c3)
  have HL1 := Lib.hid l1
  have HS1 := Lib.hid S1
  have HK1 := Lib.hid K1
  have HB2' : Hid (Blk W1 g 119 C.toArray) := Lib.hid (Blk.kept (w := (w.drewN nq).drewN nr) HB2.out K1 (Ne.symm hhg))
  clear l1 S1 K1 c1 c3
  go_wp2
  refine wqT 14 ?_
  simp only [List.take_succ_cons, List.take_zero, List.drop_succ_cons, List.drop_zero]
  repeat (go_big_quiet_step (fail))
  refine wpQuiet_nil ?_
  intro _ hw'
  obtain ⟨ns, hw''⟩ := hw'
  subst hw''
  refine wpList_copyK rfl (.tmp 35) (.tmp 46) _ _ rfl 119 Tryz.underlying26 2 (by omega) HT.out _ _ _ _ _ _ rfl rfl h (u * 2) _ 119 HD1.out (F.drop (u * 2)) 0 (by show 0 = min _ _; omega) (by have := HF.out; simp; omega)
   (fun h0 => by have := HF.out; simp at h0; omega) (by rw [length_splice _ _ _ (by have := HF.out; have := HDl.out; simp; omega)]; have := HF.out; have := HDl.out; simp; omega) (fun v hv => H1.out v (List.mem_of_mem_drop hv)) ?_
  intro W2 HD2 K2 S2
  have HS2 := Lib.hid S2
  have HK2 := Lib.hid K2
  clear S2 K2
  have hend : Blk W2 h 119 (F ++ D.drop F.length).toArray ∧ Kept (fun i => i = h) w W2 ∧ W2.heap.size = w.heap.size := by
   refine ⟨?_, ?_, ?_⟩
   ·have := HD2.out
    rw [splice_two (by have := HF.out; have := HDl.out; omega) (by have := HF.out; omega)] at this
    exact this
   ·exact ((((Kept.refl _ w).drewN nq).drewN nr).trans HK1.out (fun _ _ h => h)).drewN ns |>.trans HK2.out (fun _ _ h => h)
   ·exact HS2.out.trans HS1.out
  have HE := Lib.hid hend
  clear hend
  go_wp2
  all_goals
   go_end0
   exact ⟨rfl, HE.out⟩
 ·have hle : ¬ ((f : Int) + (c : Int)) ≤ (n : Int) := by omega
  have hlt : (n : Int) < (f : Int) + (c : Int) := by omega
  obtain rfl : n = f + u := by omega
  go_enter Tryz.func96, Tryz.ntmps96
  go_wp2
  go_quiet (fail)
  go_wp2
  refine wqT 11 ?_
  simp only [List.take_succ_cons, List.take_zero, List.drop_succ_cons, List.drop_zero]
  repeat (go_big_quiet_step (fail))
  refine wpQuiet_nil ?_
  intro _ hw'
  obtain ⟨nr, hw''⟩ := hw'
  subst hw''
  have l1 : (F.take (u * 2)).length = u * 2 := by have := HF.out; simp; omega
  refine wpList_copyK rfl (.tmp 21) (.tmp 31) _ _ rfl 119 Tryz.underlying26 2 (by omega) HT.out _ _ _ _ _ _ rfl rfl h 0 D 119 HD.out (F.take (u * 2)) u (by show u = min _ _; omega) l1
   (fun _ => ⟨rfl, _, rfl, row_src HB2.out HW.out (by have := HC.out; omega)⟩) (by have := HDl.out; omega) (fun v hv => H1.out v (List.mem_of_mem_take hv)) ?_
  intro W1 HD1 K1 S1
  have hbh : ¬ b = h := Blk.ne_ HB1.out HD.out (by decide)
  have d1 := K1.cell (p := ⟨b, 1, none⟩) hbh (by simpa using c1)
  have d3 := K1.cell (p := ⟨b, 3, none⟩) hbh (by simpa using c3)
  have HL1 := Lib.hid l1
  have HS1 := Lib.hid S1
  have HK1 := Lib.hid K1
  have HB2' : Hid (Blk W1 g 119 C.toArray) := Lib.hid (Blk.kept (w := (w.drewN nq).drewN nr) HB2.out K1 (Ne.symm hhg))
  clear l1 S1 K1 c1 c3
  go_wp2
  refine wqT 14 ?_
  simp only [List.take_succ_cons, List.take_zero, List.drop_succ_cons, List.drop_zero]
  repeat (go_big_quiet_step (fail))
  refine wpQuiet_nil ?_
  intro _ hw'
  obtain ⟨ns, hw''⟩ := hw'
  subst hw''
  have e : C.length - (f * 2) = (u * 2) := by have := HC.out; omega
  have hx := row_src2 HB2'.out HW.out
  rw [e] at hx
  refine wpList_copyK rfl (.tmp 35) (.tmp 46) _ _ rfl 119 Tryz.underlying26 2 (by omega) HT.out _ _ _ _ _ _ rfl rfl h (u * 2) _ 119 HD1.out (F.drop (u * 2)) (c - u) (by show c - u = min _ _; omega) (by have := HF.out; simp; omega)
   (fun _ => ⟨rfl, _, rfl, hx⟩) (by rw [length_splice _ _ _ (by have := HF.out; have := HDl.out; simp; omega)]; have := HF.out; have := HDl.out; simp; omega) (fun v hv => H1.out v (List.mem_of_mem_drop hv)) ?_
  clear hx e
  intro W2 HD2 K2 S2
  have HS2 := Lib.hid S2
  have HK2 := Lib.hid K2
  clear S2 K2
  have hend : Blk W2 h 119 (F ++ D.drop F.length).toArray ∧ Kept (fun i => i = h) w W2 ∧ W2.heap.size = w.heap.size := by
   refine ⟨?_, ?_, ?_⟩
   ·have := HD2.out
    rw [splice_two (by have := HF.out; have := HDl.out; omega) (by have := HF.out; omega)] at this
    exact this
   ·exact ((((Kept.refl _ w).drewN nq).drewN nr).trans HK1.out (fun _ _ h => h)).drewN ns |>.trans HK2.out (fun _ _ h => h)
   ·exact HS2.out.trans HS1.out
  have HE := Lib.hid hend
  clear hend
  go_wp2
  all_goals
   go_end0
   exact ⟨rfl, HE.out⟩
end
section
set_option maxRecDepth 100000
open Go.RowKit
theorem rq_copyTo_none (b h size m cap : Nat) (D : List Value) (w : World) (hi : RingNew 154 w b size)
  (hD : Blk w h 119 D.toArray) (hDl : D.length = m * 2) (hmc : m ≤ cap) (hcap : cap ≤ 1048576) :
  Calls Tryz.prog 96 #[.pointer (some ⟨b, 0, none⟩), .slice (some ⟨h, 0, none⟩) m cap] w fun e w' => e = .returned (.tuple #[]) ∧ Blk w' h 119 D.toArray ∧ Kept (fun i => i = h) w w' ∧ w'.heap.size = w.heap.size := by
 obtain ⟨c0, c1, c2, c3, -, -, -⟩ := hi.cells
 obtain ⟨B1, hs1, hs⟩ := hi
 have HB1 := Lib.hid B1
 have HD := Lib.hid hD
 have HDl := Lib.hid hDl
 clear B1 hD hDl
 have hT : (Tryz.prog.info? 119).map (·.size) = some 2 := by kernel_rfl
 have HT := Lib.hid hT
 clear hT
 go_enter Tryz.func96, Tryz.ntmps96
 go_wp2
 go_quiet (fail)
 go_wp2
 refine wqT 11 ?_
 simp only [List.take_succ_cons, List.take_zero, List.drop_succ_cons, List.drop_zero]
 repeat (go_big_quiet_step (fail))
 refine wpQuiet_nil ?_
 intro _ hw'
 obtain ⟨nr, hw''⟩ := hw'
 subst hw''
 refine wpList_copyK rfl (.tmp 21) (.tmp 31) _ _ rfl 119 Tryz.underlying26 2 (by omega) HT.out _ _ _ _ _ _ rfl rfl h 0 D 119 HD.out [] 0 (by show 0 = min _ _; omega) rfl
  (fun h0 => by simp at h0) (by simp) (fun v hv => by simp at hv) ?_
 intro W1 HD1 K1 S1
 have hbh : ¬ b = h := Blk.ne_ HB1.out HD.out (by decide)
 have d1 := K1.cell (p := ⟨b, 1, none⟩) hbh (by simpa using c1)
 have d3 := K1.cell (p := ⟨b, 3, none⟩) hbh (by simpa using c3)
 have HS1 := Lib.hid S1
 have HK1 := Lib.hid K1
 clear S1 K1 c1 c3
 go_wp2
 refine wqT 14 ?_
 simp only [List.take_succ_cons, List.take_zero, List.drop_succ_cons, List.drop_zero]
 repeat (go_big_quiet_step (fail))
 refine wpQuiet_nil ?_
 intro _ hw'
 obtain ⟨ns, hw''⟩ := hw'
 subst hw''
 refine wpList_copyK rfl (.tmp 35) (.tmp 46) _ _ rfl 119 Tryz.underlying26 2 (by omega) HT.out _ _ _ _ _ _ rfl rfl h 0 _ 119 HD1.out [] 0 (by show 0 = min _ _; omega) rfl
  (fun h0 => by simp at h0) (by simp) (fun v hv => by simp at hv) ?_
 intro W2 HD2 K2 S2
 have hend : Blk W2 h 119 D.toArray ∧ Kept (fun i => i = h) w W2 ∧ W2.heap.size = w.heap.size := by
  refine ⟨?_, ?_, ?_⟩
  ·have := HD2.out
   show W2.heap[h]? = _
   simpa [splice] using this
  ·exact ((((Kept.refl _ w).drewN nq).drewN nr).trans HK1.out (fun _ _ h => h)).drewN ns |>.trans K2 (fun _ _ h => h)
  ·exact S2.trans HS1.out
 have HE := Lib.hid hend
 clear hend S2 K2
 go_wp2
 all_goals
  go_end0
  exact ⟨rfl, HE.out⟩
theorem rq_copyTo_at (b h size c m cap : Nat) (go : Option Nat) (D F : List Value) (w : World) (hi : RingAt 154 119 2 w b go size c F)
  (hD : Blk w h 119 D.toArray) (hDl : D.length = m * 2) (hcm : c ≤ m) (hmc : m ≤ cap) (hcap : cap ≤ 1048576) (hhg : go ≠ some h) :
  Calls Tryz.prog 96 #[.pointer (some ⟨b, 0, none⟩), .slice (some ⟨h, 0, none⟩) m cap] w fun e w' => e = .returned (.tuple #[]) ∧ Blk w' h 119 (F ++ D.drop F.length).toArray ∧ Kept (fun i => i = h) w w' ∧ w'.heap.size = w.heap.size := by
 obtain ⟨h1, h2, ⟨rfl, rfl, h3⟩ | ⟨g, n, f, C, rfl, h3, h4⟩⟩ := hi
 ·obtain rfl : F = [] := List.eq_nil_of_length_eq_zero (by simpa using h1)
  have := rq_copyTo_none b h size m cap D w h3 hD hDl hmc hcap
  simpa using this
 ·exact rq_copyTo_some b g h size n f c m cap C D F w h3 h4 h1 h2 hD hDl hcm hmc hcap (fun e => hhg (by rw [e]))
end
section
set_option maxRecDepth 100000
open Go.RowKit
theorem r2_all_any (b size c : Nat) (go : Option Nat) (F : List Value) (w : World) (hi : RingAt 151 116 2 w b go size c F) :
  Calls Tryz.prog 47 #[.pointer (some ⟨b, 0, none⟩)] w fun e w' => e = .returned (.slice (some ⟨w.heap.size, 0, none⟩) c c) ∧ Blk w' w.heap.size 116 F.toArray ∧ Below w.heap.size w w' := by
 obtain ⟨c0, c3⟩ := hi.cells
 obtain ⟨hcs, hs1, hs⟩ := hi.size_le
 have hgo : ∀ i, go = some i → i < w.heap.size := fun i e => hi.lt i (.inr e.symm)
 have hFl := hi.1
 have HFl := Lib.hid hFl
 have HI := Lib.hid hi
 clear hi hFl
 have hT : (Tryz.prog.info? 116).map (fun i => (i.zero, i.size, i.bytes)) = some (some (.agg #[.int .i64 0, .int .i64 0]), 2, 16) := by kernel_rfl
 obtain ⟨i0, hi0, hz0, hz1, hz2⟩ := info_parts hT
 have hmk := fun W => run_make_rowN (P := Tryz.prog) 25 116 i0 _ Tryz.underlying25 hi0 hz0 .i64 .i64 c c (Nat.le_refl _) (by rw [hz2]; omega) (by omega) W
 rw [hz1] at hmk
 have hDl : (madeCells (Value.cells (.agg #[.int .i64 0, .int .i64 0])) (c * 2)).toList.length = c * 2 := by rw [Array.length_toList, size_madeCells]
 have hDe : (madeCells (Value.cells (.agg #[.int .i64 0, .int .i64 0])) (c * 2)) = ((madeCells (Value.cells (.agg #[.int .i64 0, .int .i64 0])) (c * 2)).toList).toArray := by simp
 generalize madeCells (Value.cells (.agg #[.int .i64 0, .int .i64 0])) (c * 2) = D0 at *
 generalize D0.toList = D at *
 subst hDe
 have HDl := Lib.hid hDl
 clear hT hi0 hz0 hz1 hz2 i0 hDl
 go_enter Tryz.func47, Tryz.ntmps47
 go_wp2_with fail
 refine (r2_copyTo_at b _ size c c c go D F _ (RingAt.kept (S := fun _ => False) HI.out ((Kept.refl _ w).alloc _) (fun _ _ h => h)) (Blk.new _ _ _) HDl.out (by omega) (by omega) (by omega) (fun e => by have := hgo _ e; simp at this)).mono ?_
 rintro e w1 ⟨rfl, hB1, hK1, hS1⟩
 have hB2 : Blk w1 w.heap.size 116 F.toArray := by
  have := hB1
  rw [List.drop_of_length_le (by have := HFl.out; have := HDl.out; omega), List.append_nil] at this
  exact this
 have hK2 : Kept (fun i => i = w.heap.size) w w1 := ((Kept.refl _ w).alloc _).trans hK1 (fun _ _ h => h)
 have HK2 := Lib.hid hK2
 have HB2 := Lib.hid hB2
 clear hB1 hK1 hS1 hK2 hB2
 go_wp2
 go_ret
 exact ⟨rfl, HB2.out, Kept.below (Below.refl _ _) HK2.out (fun i hi => by omega) (Nat.le_refl _)⟩
end
section
set_option maxRecDepth 100000
open Go.RowKit
theorem rq_all_any (b size c : Nat) (go : Option Nat) (F : List Value) (w : World) (hi : RingAt 154 119 2 w b go size c F) :
  Calls Tryz.prog 48 #[.pointer (some ⟨b, 0, none⟩)] w fun e w' => e = .returned (.slice (some ⟨w.heap.size, 0, none⟩) c c) ∧ Blk w' w.heap.size 119 F.toArray ∧ Below w.heap.size w w' := by
 obtain ⟨c0, c3⟩ := hi.cells
 obtain ⟨hcs, hs1, hs⟩ := hi.size_le
 have hgo : ∀ i, go = some i → i < w.heap.size := fun i e => hi.lt i (.inr e.symm)
 have hFl := hi.1
 have HFl := Lib.hid hFl
 have HI := Lib.hid hi
 clear hi hFl
 have hT : (Tryz.prog.info? 119).map (fun i => (i.zero, i.size, i.bytes)) = some (some (.agg #[.int .i64 0, .int .u64 0]), 2, 16) := by kernel_rfl
 obtain ⟨i0, hi0, hz0, hz1, hz2⟩ := info_parts hT
 have hmk := fun W => run_make_rowN (P := Tryz.prog) 26 119 i0 _ Tryz.underlying26 hi0 hz0 .i64 .i64 c c (Nat.le_refl _) (by rw [hz2]; omega) (by omega) W
 rw [hz1] at hmk
 have hDl : (madeCells (Value.cells (.agg #[.int .i64 0, .int .u64 0])) (c * 2)).toList.length = c * 2 := by rw [Array.length_toList, size_madeCells]
 have hDe : (madeCells (Value.cells (.agg #[.int .i64 0, .int .u64 0])) (c * 2)) = ((madeCells (Value.cells (.agg #[.int .i64 0, .int .u64 0])) (c * 2)).toList).toArray := by simp
 generalize madeCells (Value.cells (.agg #[.int .i64 0, .int .u64 0])) (c * 2) = D0 at *
 generalize D0.toList = D at *
 subst hDe
 have HDl := Lib.hid hDl
 clear hT hi0 hz0 hz1 hz2 i0 hDl
 go_enter Tryz.func48, Tryz.ntmps48
 go_wp2_with fail
 refine (rq_copyTo_at b _ size c c c go D F _ (RingAt.kept (S := fun _ => False) HI.out ((Kept.refl _ w).alloc _) (fun _ _ h => h)) (Blk.new _ _ _) HDl.out (by omega) (by omega) (by omega) (fun e => by have := hgo _ e; simp at this)).mono ?_
 rintro e w1 ⟨rfl, hB1, hK1, hS1⟩
 have hB2 : Blk w1 w.heap.size 119 F.toArray := by
  have := hB1
  rw [List.drop_of_length_le (by have := HFl.out; have := HDl.out; omega), List.append_nil] at this
  exact this
 have hK2 : Kept (fun i => i = w.heap.size) w w1 := ((Kept.refl _ w).alloc _).trans hK1 (fun _ _ h => h)
 have HK2 := Lib.hid hK2
 have HB2 := Lib.hid hB2
 clear hB1 hK1 hS1 hK2 hB2
 go_wp2
 go_ret
 exact ⟨rfl, HB2.out, Kept.below (Below.refl _ _) HK2.out (fun i hi => by omega) (Nat.le_refl _)⟩
end
section
def stepB (base i : Nat) (o : Oper) : Bool :=
 (match o.dst with | some d => Nat.beq d (base + i) | Option.none => false) && (match o.guard with | Option.none => true | some _ => false) && (match o.op with | .select .. => false | _ => true) &&
 (o.after.toList.all fun e => Region.binds .any e && Nat.blt e.on i) &&
 (o.op.operands.toList.all fun | .tmp t => Nat.blt t base || (o.after.toList.any fun e => Nat.beq (base + e.on) t) | _ => true)
def tailB (n : Nat) (o : Oper) : Bool :=
 (match o.op with | .select .. => false | _ => true) && (o.after.toList.all fun e => Region.binds .any e && Nat.blt e.on n) &&
 ((List.range n).all fun i => o.after.toList.any fun e => Nat.beq e.on i)
def stepsB (base : Nat) : Nat → List Oper → Bool
 | _, [] => false
 | i, [o] => tailB i o
 | i, o :: o' :: rest => stepB base i o && stepsB base (i + 1) (o' :: rest)
theorem stepsB_spec {base : Nat} : ∀ {l : List Oper} {s : Nat}, stepsB base s l = true →
  ∃ n, l.length = n + 1 ∧ (∀ i, i < n → ∃ o, l[i]? = some o ∧ stepB base (s + i) o = true) ∧ ∃ o, l[n]? = some o ∧ tailB (s + n) o = true
 | [], _, h => by simp [stepsB] at h
 | [o], s, h => ⟨0, rfl, fun i hi => by omega, o, rfl, by simpa [stepsB] using h⟩
 | o :: o' :: rest, s, h => by
  simp only [stepsB, Bool.and_eq_true] at h
  obtain ⟨n, hn, hh, t, ht, htb⟩ := stepsB_spec h.2
  refine ⟨n + 1, by simpa using hn, fun i hi => ?_, t, by simpa using ht, by rw [show s + (n + 1) = s + 1 + n by omega]; exact htb⟩
  rcases i with _ | i
  ·exact ⟨o, rfl, h.1⟩
  ·obtain ⟨x, hx, hxb⟩ := hh i (by omega)
   exact ⟨x, by simpa using hx, by rw [show s + (i + 1) = s + 1 + i by omega]; exact hxb⟩
theorem stepB_spec {base i : Nat} {o : Oper} (h : stepB base i o = true) :
  o.dst = some (base + i) ∧ o.guard = Option.none ∧ (match o.op with | .select .. => false | _ => true) = true ∧ (∀ e ∈ o.after, Region.binds .any e = true ∧ e.on < i) ∧
   ∀ t : Nat, Operand.tmp t ∈ o.op.operands → t < base ∨ ∃ e ∈ o.after, base + e.on = t := by
 simp only [stepB, Bool.and_eq_true] at h
 obtain ⟨⟨⟨⟨h1, h2⟩, h3⟩, h4⟩, h5⟩ := h
 refine ⟨?_, ?_, h3, fun e he => ?_, fun t ht => ?_⟩
 ·cases hd : o.dst with
  | none => rw [hd] at h1; cases h1
  | some d => rw [hd] at h1; rw [Nat.eq_of_beq_eq_true h1]
 ·cases hd : o.guard with
  | none => rfl
  | some d => rw [hd] at h2; cases h2
 ·have := List.all_eq_true.1 h4 e (by simpa using he)
  simp only [Bool.and_eq_true] at this
  exact ⟨this.1, by simpa using this.2⟩
 ·have := List.all_eq_true.1 h5 _ (by simpa using ht)
  simp only [Bool.or_eq_true] at this
  rcases this with h | h
  ·exact .inl (by simpa using h)
  ·obtain ⟨e, he, hb⟩ := List.any_eq_true.1 h
   exact .inr ⟨e, by simpa using he, Nat.eq_of_beq_eq_true hb⟩
theorem tailB_spec {n : Nat} {o : Oper} (h : tailB n o = true) :
  (match o.op with | .select .. => false | _ => true) = true ∧ (∀ e ∈ o.after, Region.binds .any e = true ∧ e.on < n) ∧ ∀ i, i < n → ∃ e ∈ o.after, e.on = i := by
 simp only [tailB, Bool.and_eq_true] at h
 obtain ⟨⟨h1, h2⟩, h3⟩ := h
 refine ⟨h1, fun e he => ?_, fun i hi => ?_⟩
 ·have := List.all_eq_true.1 h2 e (by simpa using he)
  simp only [Bool.and_eq_true] at this
  exact ⟨this.1, by simpa using this.2⟩
 ·have := List.all_eq_true.1 h3 i (by simpa using hi)
  obtain ⟨e, he, hb⟩ := List.any_eq_true.1 this
  exact ⟨e, by simpa using he, Nat.eq_of_beq_eq_true hb⟩
def Listed (m k : Nat) (listed : Array Bool) : Prop := listed.size = m ∧ ∀ j, j < m → listed[j]? = some (decide (j < k))
theorem Listed.getD {m k : Nat} {listed : Array Bool} (h : Listed m k listed) {j : Nat} (hj : j < m) (b : Bool) : listed.getD j b = decide (j < k) := by
 rw [Array.getD_eq_getD_getElem?, h.2 j hj]; rfl
theorem Listed.set {m k : Nat} {listed : Array Bool} (h : Listed m k listed) (hk : k < m) : Listed m (k + 1) (listed.setIfInBounds k true) := by
 refine ⟨by simpa using h.1, fun j hj => ?_⟩
 rw [Array.getElem?_setIfInBounds]
 by_cases e : k = j
 ·subst e; simp [h.1, hk]
 ·rw [if_neg e, h.2 j hj]
  congr 1
  by_cases h1 : j < k
  ·simp [h1, show j < k + 1 by omega]
  ·simp [h1, show ¬ j < k + 1 by omega]
theorem Listed.start (m : Nat) : Listed m 0 (Array.replicate m false) := ⟨by simp, fun j hj => by simp [hj]⟩
def LongAs (l : List Oper) (base n : Nat) : Prop := l.length = n + 1 ∧ (∀ i, i < n → ∃ o, l[i]? = some o ∧ stepB base i o = true) ∧ ∃ o, l[n]? = some o ∧ tailB n o = true
section
variable {l : List Oper} {n base : Nat}
theorem long_ready (hA : LongAs l base n) {k : Nat} {listed : Array Bool} (hL : Listed (n + 1) k listed) (hk : k < n) : k ∈ Region.ready .any l.toArray listed := by
 obtain ⟨_, hh, _⟩ := hA
 obtain ⟨o, ho, hb⟩ := hh k hk
 obtain ⟨_, _, _, he, _⟩ := stepB_spec hb
 refine mem_ready.2 ⟨by rw [hL.getD (by omega)]; simp, o, by simpa using ho, fun e hm _ => ?_⟩
 have := (he e hm).2
 rw [hL.getD (by omega)]
 simpa using this
theorem long_free (hA : LongAs l base n) {k : Nat} {listed : Array Bool} (hL : Listed (n + 1) k listed) (hk : k < n) : Region.free .any l.toArray listed k = true := by
 obtain ⟨hlen, hh, ht⟩ := hA
 obtain ⟨o, ho, hb⟩ := hh k hk
 obtain ⟨hd, hg, _, he, hop⟩ := stepB_spec hb
 have ho' : l.toArray[k]? = some o := by simpa using ho
 unfold Region.free
 rw [ho']
 simp only [List.all_eq_true, List.mem_range]
 intro j hj
 have hj' : j < n + 1 := by simpa [hlen] using hj
 by_cases hjk : j = k
 ·simp [hjk]
 ·rcases Nat.lt_or_ge j k with h | h
  ·rw [hL.getD hj']; simp [h]
  ·by_cases hjn : j = n
   ·obtain ⟨t, htn, htb⟩ := ht
    obtain ⟨_, h2, h3⟩ := tailB_spec htb
    obtain ⟨e, hem, hon⟩ := h3 k hk
    have : l.toArray[j]? = some t := by rw [hjn]; simpa using htn
    rw [this]
    have ha : (t.after.any fun e => Region.binds .any e && e.on == k) = true := Array.any_eq_true'.2 ⟨e, hem, by simp [(h2 e hem).1, hon]⟩
    simp [ha]
   ·obtain ⟨x, hx, hxb⟩ := hh j (by omega)
    obtain ⟨xd, xg, _, xe, xop⟩ := stepB_spec hxb
    have : l.toArray[j]? = some x := by simpa using hx
    rw [this]
    by_cases hw : ∃ e ∈ x.after, e.on = k
    ·obtain ⟨e, hem, hon⟩ := hw
     have ha : (x.after.any fun e => Region.binds .any e && e.on == k) = true := Array.any_eq_true'.2 ⟨e, hem, by simp [(xe e hem).1, hon]⟩
     simp [ha]
    ·have h1 : base + k ∉ x.looksAt l.toArray := by
      intro hc
      simp only [Oper.looksAt, xg, List.append_nil, List.mem_filterMap] at hc
      obtain ⟨p, hp, hpt⟩ := hc
      split at hpt
      ·rename_i t
       obtain rfl := Option.some.inj hpt
       rcases xop _ (by simpa using hp) with h | ⟨e, hem, hon⟩
       ·omega
       ·exact hw ⟨e, hem, by omega⟩
      ·cases hpt
     have h2 : base + j ∉ o.looksAt l.toArray := by
      intro hc
      simp only [Oper.looksAt, hg, List.append_nil, List.mem_filterMap] at hc
      obtain ⟨p, hp, hpt⟩ := hc
      split at hpt
      ·rename_i t
       obtain rfl := Option.some.inj hpt
       rcases hop _ (by simpa using hp) with h | ⟨e, hem, hon⟩
       ·omega
       ·have := (he e hem).2; omega
      ·cases hpt
     have ha : o.apart l.toArray x = true := by
      unfold Oper.apart
      rw [hd, xd]
      simp [h1, h2]
      omega
     simp [ha]
theorem long_ready_none (hA : LongAs l base n) {listed : Array Bool} (hL : Listed (n + 1) (n + 1) listed) : Region.ready .any l.toArray listed = [] := by
 obtain ⟨hlen, _, _⟩ := hA
 unfold Region.ready
 rw [List.filter_eq_nil_iff]
 intro i hi
 have hi' : i < n + 1 := by simpa [hlen] using hi
 rw [hL.getD hi']
 simp [hi']
theorem long_ready_tail (hA : LongAs l base n) {listed : Array Bool} (hL : Listed (n + 1) n listed) : Region.ready .any l.toArray listed = [n] := by
 obtain ⟨hlen, _, ht⟩ := hA
 obtain ⟨t, htn, htb⟩ := ht
 obtain ⟨_, h2, _⟩ := tailB_spec htb
 have ht' : l.toArray[n]? = some t := by simpa using htn
 unfold Region.ready
 rw [show l.toArray.size = n + 1 by simpa using hlen, List.range_succ, List.filter_append]
 have hE : ((List.range n).filter fun i => !listed.getD i true && ((l.toArray[i]?).map (·.after.all fun e => !Region.binds .any e || listed.getD e.on false)).getD false) = [] := by
  rw [List.filter_eq_nil_iff]
  intro i hi
  have hi' : i < n := by simpa using hi
  rw [hL.getD (show i < n + 1 by omega)]
  simp [hi']
 have hB : (!listed.getD n true && ((l.toArray[n]?).map (·.after.all fun e => !Region.binds .any e || listed.getD e.on false)).getD false) = true := by
  rw [hL.getD (show n < n + 1 by omega), ht']
  have : (t.after.all fun e => !Region.binds .any e || listed.getD e.on false) = true := Array.all_eq_true_iff_forall_mem.2 fun e he => by
   have := (h2 e he).2
   rw [hL.getD (show e.on < n + 1 by omega)]
   simp [this]
  simp only [Option.map_some, Option.getD_some, this]
  simp
 rw [hE, List.filter_cons_of_pos (p := fun i => !listed.getD i true && ((l.toArray[i]?).map (·.after.all fun e => !Region.binds .any e || listed.getD e.on false)).getD false) hB]
 rfl
theorem long_seq (hA : LongAs l base n) {listed : Array Bool} (hL : Listed (n + 1) n listed) : Region.seqB .any l.toArray 1 n listed = true := by
 simp only [Region.seqB, Bool.and_eq_true, decide_eq_true_eq]
 exact ⟨long_ready_tail hA hL, by rw [long_ready_none hA (hL.set (by omega))]; rfl⟩
theorem long_head (hA : LongAs l base n) : ∀ (f k : Nat) (listed : Array Bool), k + f = n → Listed (n + 1) k listed → Region.lexHead .any l.toArray 1 f k listed = true
 | 0, k, listed, hk, hL => by
  obtain rfl : k = n := by omega
  exact long_seq hA hL
 | f + 1, k, listed, hk, hL => by
  simp only [Region.lexHead, Bool.and_eq_true]
  exact ⟨⟨by simpa using long_ready hA hL (by omega), long_free hA hL (by omega)⟩, long_head hA f (k + 1) _ (by omega) (hL.set (by omega))⟩
theorem long_noSelect (hA : LongAs l base n) : Region.noSelect l.toArray = true := by
 obtain ⟨hlen, hh, ht⟩ := hA
 unfold Region.noSelect
 refine Array.all_eq_true_iff_forall_mem.2 fun o ho => ?_
 obtain ⟨i, hi⟩ := List.getElem?_of_mem (by simpa using ho : o ∈ l)
 have hil : i < n + 1 := by
  have := (List.getElem?_eq_some_iff.1 hi).1
  omega
 rcases Nat.lt_or_ge i n with h | h
 ·obtain ⟨x, hx, hb⟩ := hh i h
  obtain rfl : x = o := Option.some.inj (hx.symm.trans hi)
  exact (stepB_spec hb).2.2.1
 ·obtain ⟨x, hx, hb⟩ := ht
  obtain rfl : i = n := by omega
  obtain rfl : x = o := Option.some.inj (hx.symm.trans hi)
  exact (tailB_spec hb).1
theorem long_sink (hA : LongAs l base n) : Region.sinkB .any l.toArray n = true := by
 obtain ⟨_, _, ht⟩ := hA
 obtain ⟨t, htn, htb⟩ := ht
 obtain ⟨_, h2, h3⟩ := tailB_spec htb
 have ht' : l.toArray[n]? = some t := by simpa using htn
 refine List.all_eq_true.2 fun i hi => List.any_eq_true.2 ⟨n, by simp, ?_⟩
 have hi' : i < n := by simpa using hi
 obtain ⟨e, hem, hon⟩ := h3 i hi'
 have ha : (t.after.any fun e => Region.binds .any e && e.on == i) = true := Array.any_eq_true'.2 ⟨e, hem, by simp [(h2 e hem).1, hon]⟩
 simp only [Bool.and_eq_true, decide_eq_true_eq]
 exact ⟨hi', by unfold Region.waitsFor; rw [ht']; exact ha⟩
end
theorem long_lexTail {l : List Oper} {n base : Nat} (hlen : l.length = n + 1) (h : stepsB base 0 l = true) : Region.lexTailB .any l.toArray n = true := by
 obtain ⟨m, hm, hh, ht⟩ := stepsB_spec h
 obtain rfl : m = n := by omega
 simp only [Nat.zero_add] at hh ht
 simp only [Region.lexTailB, Bool.and_eq_true, decide_eq_true_eq]
 refine ⟨⟨⟨⟨long_noSelect (base := base) ⟨hm, hh, ht⟩, by simp [hm]⟩, long_sink (base := base) ⟨hm, hh, ht⟩⟩, ?_⟩, ?_⟩
 ·refine List.all_eq_true.2 fun t h => ?_
  have : t < m + 1 := by simpa [hm] using h
  simp [show t ≤ m by omega]
 ·have hs : l.toArray.size = m + 1 := by simpa using hm
  rw [hs, show m + 1 - m = 1 by omega]
  exact long_head (base := base) ⟨hm, hh, ht⟩ m 0 _ (by omega) (Listed.start _)
theorem wp_region_long {P : Program} {id : Nat} {Q : Exit → Act → World → Prop} {a : Act} {w : World} {l : List Oper} {o : Oper} (n base : Nat) (hm : P.follows .mixedOrders = true) (hlen : l.length = n + 1) (hB : stepsB base 0 l = true)
  (hD : l.drop n = [o]) (h : ∀ (ops : Array Oper) (W : World), W = w.drew → wpStill P ops W (fun a' => wpList P ops Q [o] a' W) (l.take n) a) : (Code.region id l.toArray true).wp P Q a w :=
 wp_region_still_tail n hm (long_lexTail hlen hB) (by rw [hD]; exact h _ _ rfl)
end
end Go.Proofs.YtobgbcdgffgdhaaGreat
