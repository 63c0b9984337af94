/- The reference's bounds; what all of them are, in one formula. -/
import Derived.Test.YtjleklhajmhekaaPay
namespace Go.Proofs.Ytjleklhajmhekaa
open Go Go.RowKit
set_option linter.unusedVariables false
set_option linter.unusedSimpArgs false
set_option maxRecDepth 100000

/-- The epoch, the boundaries, 1, and more. -/
def lastE (a x : Int) (c : Nat → Int) (more e : Int) : Option Int := match bnd a x c with | none => none | some k => if 0 ≤ e ∧ e + k + 1 + more ≤ 1099511627776 then some (e + k + 1 + more) else none
theorem laterTo_succ (e : Int) (z : List Int) (k : Nat) : laterTo e z (k + 1) = (match laterTo e z k with | none => none | some s => if 0 ≤ z.getD k 0 ∧ z.getD k 0 ≤ 1099511627776 - s then some (s + z.getD k 0) else none) := rfl
theorem laterTo_one {s n : Int} (hn : 0 ≤ n) : laterTo s [n] 1 = if 0 ≤ s ∧ s + n ≤ 1099511627776 then some (s + n) else none := by
  show (match laterTo s [n] 0 with | none => none | some s' => if 0 ≤ ([n] : List Int).getD 0 0 ∧ ([n] : List Int).getD 0 0 ≤ 1099511627776 - s' then some (s' + ([n] : List Int).getD 0 0) else none) = _
  simp only [List.getD_cons_zero]
  by_cases h : 0 ≤ s ∧ s ≤ 1099511627776
  · rw [show laterTo s [n] 0 = some s from if_pos h]
    dsimp only
    by_cases h2 : s + n ≤ 1099511627776
    · rw [if_pos (by omega), if_pos (by omega)]
    · rw [if_neg (by omega), if_neg (by omega)]
  · rw [show laterTo s [n] 0 = none from if_neg h]
    dsimp only
    rw [if_neg (by omega)]
theorem laterTo_two {e k : Int} (hk : 0 ≤ k) : laterTo e [k, 1] 2 = if 0 ≤ e ∧ e + k + 1 ≤ 1099511627776 then some (e + k + 1) else none := by
  rw [laterTo_succ, show laterTo e [k, 1] 1 = laterTo e [k] 1 from rfl, laterTo_one hk]
  have e1 : ([k, 1] : List Int).getD 1 0 = 1 := rfl
  rw [e1]
  by_cases h : 0 ≤ e ∧ e + k ≤ 1099511627776
  · rw [if_pos h]
    dsimp only
    by_cases h2 : e + k + 1 ≤ 1099511627776
    · rw [if_pos (by omega), if_pos (by omega)]
    · rw [if_neg (by omega), if_neg (by omega)]
  · rw [if_neg h]
    dsimp only
    rw [if_neg (by omega)]
theorem laterTo_three {e k m : Int} (hk : 0 ≤ k) (hm : 0 ≤ m) : laterTo e [k, 1, m] 3 = if 0 ≤ e ∧ e + k + 1 + m ≤ 1099511627776 then some (e + k + 1 + m) else none := by
  rw [laterTo_succ, show laterTo e [k, 1, m] 2 = laterTo e [k, 1] 2 from rfl, laterTo_two hk]
  have e1 : ([k, 1, m] : List Int).getD 2 0 = m := rfl
  rw [e1]
  by_cases h : 0 ≤ e ∧ e + k + 1 ≤ 1099511627776
  · rw [if_pos h]
    dsimp only
    by_cases h2 : e + k + 1 + m ≤ 1099511627776
    · rw [if_pos (by omega), if_pos (by omega)]
    · rw [if_neg (by omega), if_neg (by omega)]
  · rw [if_neg h]
    dsimp only
    rw [if_neg (by omega)]
section
variable {a x : Int} {c : Nat → Int}
theorem exitG_eq (a x : Int) (c : Nat → Int) (e : Int) : exitG a x c e = lastE a x c 0 e := by
  unfold exitG lastE
  cases h : bnd a x c with
  | none => rfl
  | some k =>
    have := bnd_bd h
    dsimp only
    rw [laterTo_two (by omega), Int.add_zero]
theorem plus_last {m n : Int} (hm : 0 ≤ m) (hn : 0 ≤ n) (g : Int → Option Int) (hg : ∀ e, g e = lastE a x c m e) (e : Int) : plusG g n e = lastE a x c (m + n) e := by
  unfold plusG
  rw [hg e]
  unfold lastE
  cases h : bnd a x c with
  | none => rfl
  | some k =>
    have := bnd_bd h
    dsimp only
    by_cases h1 : 0 ≤ e ∧ e + k + 1 + m ≤ 1099511627776
    · rw [if_pos h1]
      dsimp only
      rw [laterTo_one hn]
      by_cases h2 : e + k + 1 + (m + n) ≤ 1099511627776
      · rw [if_pos (by omega), if_pos (by omega), show e + k + 1 + m + n = e + k + 1 + (m + n) by omega]
      · rw [if_neg (by omega), if_neg (by omega)]
    · rw [if_neg h1, if_neg (by omega)]
theorem withdrawG_eq (hg : Good c) (a x e : Int) : withdrawG a x c e = lastE a x c (c 10) e := by
  have := plus_last (a := a) (x := x) (c := c) (m := 0) (n := c 10) (Int.le_refl _) (by have := hg.unb0; omega) _ (exitG_eq a x c) e
  rwa [Int.zero_add] at this
theorem payG_eq (hg : Good c) (a x e : Int) : payG a x c e = lastE a x c (c 10 + sweepN c) e :=
  plus_last (by have := hg.unb0; omega) (sweepN_bd hg).1 _ (withdrawG_eq hg a x) e
theorem lastE_bd {a x m e s : Int} {c : Nat → Int} (hm : 0 ≤ m) (h : lastE a x c m e = some s) : 0 ≤ s ∧ s ≤ 1099511627776 := by
  unfold lastE at h
  cases hk : bnd a x c with
  | none => rw [hk] at h; cases h
  | some k =>
    have := bnd_bd hk
    rw [hk] at h
    dsimp only at h
    split at h
    · injection h with h; omega
    · cases h
theorem three_lits (w : World) (k m n : Int) (t : TypeId) : ∀ i, i < 3 → (w.alloc (.cells #[.int .i64 k, .int .i64 m, .int .i64 n] t)).cell? ⟨w.heap.size, 0 + i, none⟩ = some (.int .i64 (([k, m, n] : List Int).getD i 0)) := three_cells w .i64 k m n t
theorem bound_any (hg : Good c) (ha : Amt a) (hx : Amt x) (e m : Int) (hm : 0 ≤ m ∧ m ≤ 9223372036854775807) (w : World) :
    Calls Try.prog 14 #[.int .i64 e, .int .u64 a, .int .u64 x, .agg (cellsOf c), .int .i64 m] w fun o w' => o = .returned (laterIs (lastE a x c m e)) ∧ Below w.heap.size w w' := by
  have HX := Lib.hid (fun w => refBoundaries_any hg ha hx w)
  have K0 : Hid (Blk (w.alloc (.cells (cellsOf c) 26)) w.heap.size 26 (cellsOf c)) := Lib.hid (Blk.new w _ _)
  have B0 : Hid (Below w.heap.size w (w.alloc (.cells (cellsOf c) 26))) := Lib.hid ((Below.refl _ _).alloc (Nat.le_refl _) _)
  have HG := Lib.hid (show lastE a x c m e = (match bnd a x c with | none => none | some k => if 0 ≤ e ∧ e + k + 1 + m ≤ 1099511627776 then some (e + k + 1 + m) else none) from rfl)
  have HK := Lib.hid (fun k (h : bnd a x c = some k) => bnd_bd h)
  have HM := Lib.hid hm
  clear hg ha hx hm
  generalize hq : bnd a x c = q at *
  clear hq
  go_enter Try.func14, Try.ntmps14
  go_wp2_with (first | (refine wpList_load_row rfl 26 _ rfl w.heap.size rfl 26 _ (0, 0) _ K0.out Try.underlying26 rfl info24 ?_))
  refine (HX.out _).mono ?_
  rintro o w1 ⟨rfl, b1⟩
  have B1 : Hid (Below w.heap.size w w1) := Lib.hid (B0.out.trans (b1.mono B0.out.size))
  clear b1 B0 K0 HX
  rcases q with _ | k
  · unfold laterIs
    go_wp2_with (fail)
    go_ret2
    exact ⟨by rw [HG.out]; rfl, B1.out⟩
  · have HL := Lib.hid (refLater_all e (some ⟨w1.heap.size, 0, none⟩) 3 3 [k, 1, m] (w1.alloc (.cells #[.int .i64 k, .int .i64 1, .int .i64 m] 3)) (by omega) (fun i hi => by
      have := HK.out k rfl
      have hm := HM.out
      have : i = 0 ∨ i = 1 ∨ i = 2 := by omega
      rcases this with rfl | rfl | rfl
      · show -9223372036854775808 ≤ k ∧ k ≤ 9223372036854775807
        omega
      · show -9223372036854775808 ≤ (1 : Int) ∧ (1 : Int) ≤ 9223372036854775807
        omega
      · show -9223372036854775808 ≤ m ∧ m ≤ 9223372036854775807
        omega) (fun _ => ⟨_, _, rfl, three_lits w1 k 1 m 3⟩))
    rw [laterTo_three (by have := HK.out k rfl; omega) HM.out.1] at HL
    have HG : Hid (lastE a x c m e = if 0 ≤ e ∧ e + k + 1 + m ≤ 1099511627776 then some (e + k + 1 + m) else none) := HG
    have B2 : Hid (Below w.heap.size w (w1.alloc (.cells #[.int .i64 k, .int .i64 1, .int .i64 m] 3))) := Lib.hid (B1.out.alloc B1.out.size _)
    generalize hr : (if 0 ≤ e ∧ e + k + 1 + m ≤ 1099511627776 then some (e + k + 1 + m) else none) = r at HL HG
    clear hr HK HM
    unfold laterIs
    go_wp2_with (fail)
    refine HL.out.mono ?_
    rintro o w2 ⟨rfl, q2, rfl⟩
    rcases r with _ | s
    · unfold laterIs
      go_wp2_with (fail)
      go_ret2
      exact ⟨by rw [HG.out]; rfl, below_drewN B2.out _⟩
    · unfold laterIs
      go_wp2_with (fail)
      go_ret2
      exact ⟨by rw [HG.out]; rfl, below_drewN B2.out _⟩
set_option maxHeartbeats 800000 in
theorem refPay_any (hg : Good c) (ha : Amt a) (hx : Amt x) (e : Int) (w : World) :
    Calls Try.prog 17 #[.int .i64 e, .int .u64 a, .int .u64 x, .agg (cellsOf c)] w fun o w' => o = .returned (laterIs (lastE a x c (c 10 + sweepN c) e)) ∧ Below w.heap.size w w' := by
  have hb := sweepN_bd hg
  have hu0 := hg.unb0
  have hu1 := hg.unb1
  have HX := Lib.hid (fun w => bound_any hg ha hx e (c 10 + sweepN c) (by omega) w)
  have HS := Lib.hid (fun w => refSweep_any c hg w)
  have K0 : Keeps w.heap.size w.heap.size 26 (cellsOf c) w (w.alloc (.cells (cellsOf c) 26)) := Keeps.new (Below.refl _ _) (Nat.le_refl _)
  have h10 : ∀ w', Blk w' w.heap.size 26 (cellsOf c) → w'.cell? ⟨w.heap.size, 10, none⟩ = some (.int .i64 (c 10)) := fun w' h => h.cell 10
  clear hg ha hx
  generalize hr : lastE a x c (c 10 + sweepN c) e = r at *
  have HR := Lib.hid hr
  clear hr
  generalize sweepN c = n at *
  go_enter Try.func17, Try.ntmps17
  go_wp2_with (fail)
  refine wp_region_class (Keeps w.heap.size w.heap.size 26 (cellsOf c) w) (by kernel_rfl) (by kernel_rfl) K0.drew ?_
  iterate 3 (go_big_quiet_step ((intros; rfl)))
  refine q_load 26 _ w.heap.size 26 (cellsOf c) _ rfl rfl rfl (fun _ h => h.1) Try.underlying26 rfl (info24' c) ?_
  simp only [Act.put, List.setIfInBounds_toArray, List.set_cons_zero, List.set_cons_succ]
  iterate 1 (go_big_quiet_step ((intros; rfl)))
  refine q_cell 3 _ ⟨w.heap.size, 10, none⟩ (.int .i64 (c 10)) rfl rfl rfl (fun w h => by simp [go_sem, h]) (fun w h => h10 w h.1) ?_
  simp only [Act.put, List.setIfInBounds_toArray, List.set_cons_zero, List.set_cons_succ]
  refine q_load 26 _ w.heap.size 26 (cellsOf c) _ rfl rfl rfl (fun _ h => h.1) Try.underlying26 rfl (info24' c) ?_
  simp only [Act.put, List.setIfInBounds_toArray, List.set_cons_zero, List.set_cons_succ]
  refine q_call (.int .i64 n) #[.agg (cellsOf c)] rfl (by kernel_rfl) Try.call19 (fun _ h => h.call (HS.out _)) ?_
  simp only [Act.put, List.setIfInBounds_toArray, List.set_cons_zero, List.set_cons_succ]
  refine q_val (.int .i64 (c 10 + n)) rfl (fun _ => by go_simp; exact IntWalk.i64_in _ (by omega)) ?_
  simp only [Act.put, List.setIfInBounds_toArray, List.set_cons_zero, List.set_cons_succ]
  refine q_call (laterIs r) #[.int .i64 e, .int .u64 a, .int .u64 x, .agg (cellsOf c), .int .i64 (c 10 + n)] rfl (by kernel_rfl) Try.call14 (fun _ h => h.call (HX.out _)) ?_
  simp only [Act.put, List.setIfInBounds_toArray, List.set_cons_zero, List.set_cons_succ]
  rcases r with _ | s
  · unfold laterIs
    iterate 4 (go_big_quiet_step ((intros; rfl)))
    refine wpQuiet_nil ?_
    intro w1 hk
    have hbl := Lib.hid hk.2.1
    clear hk K0
    go_wp2
    go_ret2
    exact ⟨rfl, hbl.out⟩
  · unfold laterIs
    iterate 4 (go_big_quiet_step ((intros; rfl)))
    refine wpQuiet_nil ?_
    intro w1 hk
    have hbl := Lib.hid hk.2.1
    clear hk K0
    go_wp2
    go_ret2
    exact ⟨rfl, hbl.out⟩
end
end Go.Proofs.Ytjleklhajmhekaa
