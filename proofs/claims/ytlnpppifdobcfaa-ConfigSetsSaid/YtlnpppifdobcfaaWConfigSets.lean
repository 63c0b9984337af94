/- The walk of ConfigSets. -/
import Derived.Test.YtlnpppifdobcfaaSetI
import Derived.Test.YtlnpppifdobcfaaSetN
import Derived.IntWalk
namespace Go.Proofs.Ytlnpppifdobcfaa
open Go.RowKit
set_option linter.unusedVariables false

theorem vals_upd (c : Nat → Int) (k : Nat) (hk : k < 20) (v : Int) (h0 : 0 ≤ v) (h1 : v ≤ 18446744073709551615) : (valsOf c).setIfInBounds k (.int .u64 v) = valsOf (upd c k v) := by
  refine vals_ext (by simp; rfl) (fun j hj => ?_)
  rw [Array.getElem?_setIfInBounds]
  by_cases e : k = j
  · subst e
    have hs : k < (valsOf c).size := hk
    rw [if_pos rfl, if_pos hs]
    unfold valAt
    rw [upd_same]
    cases isI k
    · rfl
    · rw [if_pos rfl, show IntKind.u64.wrap v = v from IntWalk.u64_in _ ⟨h0, by omega⟩]
  · rw [if_neg e, vals_at c j hj]
    unfold valAt
    rw [upd_other c v (Ne.symm e)]
set_option maxHeartbeats 4000000 in
theorem sets_number (a0 : Nat → Int) (a1 a2 : Int) (k : Nat) (w : World) (hk : k < 20) (hi : isI k = true) (g0 : 0 ≤ a1) (g1 : a1 ≤ 255) (hk1 : a1 % 20 = (k : Int)) (h0 : 0 ≤ a2) (h1 : 0 ≤ a2 % 2147483649) (h2 : a2 % 2147483649 ≤ 2147483648) (h3 : a2 ≤ 18446744073709551615) : Calls Try.prog 5 #[.agg (cellsOf a0), .int .u8 a1, .int .u64 a2] w fun e w' => e = .returned (.bool true) ∧ Below w.heap.size w w' := by
  have I : Hid (∀ W, _) := Lib.hid (fun W => isInt_any ((k : Int) + 1) W)
  rw [isIB_isI k hk, hi, Int.add_comm] at I
  have R : Hid (∀ W, Calls Try.prog 13 #[.agg (cellsOf a0), .int .i64 (1 + (k : Int)), .int .u64 (a2 % 2147483649)] W fun e w' => e = .returned (.tuple #[.agg (cellsOf (upd a0 k (a2 % 2147483649))), .bool true]) ∧ Below W.heap.size W w') := Lib.hid (fun W => by
    rw [Int.add_comm]
    exact set_number a0 k (a2 % 2147483649) W hk hi h1 h2)
  have L := Lib.hid alive_any
  have VA := Lib.hid (values_any a0)
  have VB := Lib.hid (values_any (upd a0 k (a2 % 2147483649)))
  have HI := Lib.hid hi
  clear hi
  have K0 : Keeps w.heap.size w.heap.size 24 (cellsOf a0) w (w.alloc (.cells (cellsOf a0) 24)) := Keeps.new (Below.refl _ _) (Nat.le_refl _)
  have HU := Lib.hid (vals_upd a0 k hk (a2 % 2147483649) (by omega) (by omega))
  unfold cellsOf
  go_enter Try.func5, Try.ntmps5
  go_upto_region 6 with (first
    | (refine wpList_load_rowG (o := ⟨_, .load 24 _, _, _, _, _⟩) rfl 24 _ rfl w.heap.size rfl 24 (cellsOf a0) (0, 0) _ K0.heap Try.underlying24 rfl info24 ?_)
    | (refine wpList_load_rowG (o := ⟨_, .load 24 _, _, _, _, _⟩) rfl 24 _ rfl w.heap.size rfl 24 (cellsOf a0) (0, 0) _ K3.heap Try.underlying24 rfl info24 ?_)
    | (go_at_call 14; refine (I.out _).mono ?_; rintro e wI ⟨rfl, rfl⟩)
    | (go_at_call 13; refine (Keeps.call K0 (R.out _)).mono ?_; rintro e w2 ⟨rfl, K2⟩; clear K0; have K3 := K2.alloc (.cells (cellsOf (upd a0 k (a2 % 2147483649))) 24); have KD := Keeps.new (t := 24) (cs := cellsOf (upd a0 k (a2 % 2147483649))) K2.2.1 K2.2.2)
    | (refine wpList_store_row (o := ⟨_, .store 24 _ _, _, _, _, _⟩) rfl _ _ _ rfl w2.heap.size (cellsOf (upd a0 k (a2 % 2147483649))) rfl rfl 24 _ (heap_alloc_new w2 _) info24 rfl (cells_one _) ?_; rw [World.setRow_alloc_new])
    | (go_at_call 15; refine (Keeps.call2 ⟨K3, KD⟩ (VA.out _)).mono ?_; rintro e w4 ⟨rfl, K4, KD4⟩; clear K2 K3 KD; have K5 := K4.alloc (.cells (valsOf a0) 32); have KD5 := KD4.alloc (.cells (valsOf a0) 32); have KV := Keeps.new (t := 32) (cs := valsOf a0) K4.2.1 K4.2.2)
    | (refine wpList_store_row (o := ⟨_, .store 32 _ _, _, _, _, _⟩) rfl _ _ _ rfl w4.heap.size (valsOf a0) rfl rfl 32 _ (heap_alloc_new w4 _) info32 rfl (vals_one _) ?_; rw [World.setRow_alloc_new]))
  have hcv : (w4.alloc (.cells (valsOf a0) 32)).cell? ⟨w4.heap.size, k, none⟩ = some (.int .u64 (valAt a0 k)) := (KV.1.cell k).trans (vals_at a0 k hk)
  have hfv : (w4.alloc (.cells (valsOf a0) 32)).frozen? ⟨w4.heap.size, k, none⟩ = false := KV.1.frozen k
  go_upto_region 7 with (fail)
  rw [HU.out]
  have KD6 := KD4.alloc (.cells (valsOf (upd a0 k (a2 % 2147483649))) 32)
  have KV6 := Keeps.new (t := 32) (cs := valsOf (upd a0 k (a2 % 2147483649))) K4.2.1 K4.2.2
  refine wp_region_class (fun W => Keeps w.heap.size w2.heap.size 24 (cellsOf (upd a0 k (a2 % 2147483649))) w W ∧ Keeps w.heap.size w4.heap.size 32 (valsOf (upd a0 k (a2 % 2147483649))) w W) (by kernel_rfl) (by kernel_rfl) ⟨KD6.drew, KV6.drew⟩ ?_
  refine q_call (.bool true) #[] rfl (by kernel_rfl) Try.call10 (fun _ h => Keeps.call2 h (L.out _)) ?_
  simp only [Act.put, List.setIfInBounds_toArray, List.set_cons_zero, List.set_cons_succ]
  refine q_val (.bool true) rfl (fun _ => by go_simp) ?_
  simp only [Act.put, List.setIfInBounds_toArray, List.set_cons_zero, List.set_cons_succ]
  refine q_val (.bool true) rfl (fun _ => by go_simp) ?_
  simp only [Act.put, List.setIfInBounds_toArray, List.set_cons_zero, List.set_cons_succ]
  refine q_val (.bool true) rfl (fun _ => by go_simp) ?_
  simp only [Act.put, List.setIfInBounds_toArray, List.set_cons_zero, List.set_cons_succ]
  refine q_val (.bool true) rfl (fun _ => by go_simp) ?_
  simp only [Act.put, List.setIfInBounds_toArray, List.set_cons_zero, List.set_cons_succ]
  refine q_load 24 (.tmp 8) w2.heap.size 24 (cellsOf (upd a0 k (a2 % 2147483649))) _ rfl rfl rfl (fun _ h => h.1.1) Try.underlying24 rfl (info24' _) ?_
  simp only [Act.put, List.setIfInBounds_toArray, List.set_cons_zero, List.set_cons_succ]
  refine q_call (.agg (valsOf (upd a0 k (a2 % 2147483649)))) #[.agg (cellsOf (upd a0 k (a2 % 2147483649)))] rfl (by kernel_rfl) Try.call15 (fun _ h => Keeps.call2 h (VB.out _)) ?_
  simp only [Act.put, List.setIfInBounds_toArray, List.set_cons_zero, List.set_cons_succ]
  refine q_load 32 (.tmp 10) w4.heap.size 32 (valsOf (upd a0 k (a2 % 2147483649))) _ rfl rfl rfl (fun _ h => h.2.1) Try.underlying32 rfl info32 ?_
  simp only [Act.put, List.setIfInBounds_toArray, List.set_cons_zero, List.set_cons_succ]
  refine q_val (.bool true) rfl (fun W => exec_same W (xs := valsOf (upd a0 k (a2 % 2147483649))) rfl rfl Try.eqGuardType32 (same32 _ W)) ?_
  simp only [Act.put, List.setIfInBounds_toArray, List.set_cons_zero, List.set_cons_succ]
  refine q_val (.bool true) rfl (fun _ => by go_simp) ?_
  simp only [Act.put, List.setIfInBounds_toArray, List.set_cons_zero, List.set_cons_succ]
  refine q_val (.bool true) rfl (fun _ => by go_simp) ?_
  simp only [Act.put, List.setIfInBounds_toArray, List.set_cons_zero, List.set_cons_succ]
  refine wpQuiet_nil ?_
  intro w6 K6
  have hbl := K6.1.2.1
  clear K6 KD6 KV6 K4 KD4 K5 KD5 KV hcv hfv
  go_wp2_with (fail)
  go_ret
  exact ⟨rfl, hbl⟩

set_option maxHeartbeats 4000000 in
theorem sets_amount (a0 : Nat → Int) (a1 a2 : Int) (k : Nat) (w : World) (hk : k < 20) (hi : isI k = false) (g0 : 0 ≤ a1) (g1 : a1 ≤ 255) (hk1 : a1 % 20 = (k : Int)) (h0 : 0 ≤ a2) (h1 : a2 ≤ 18446744073709551615) : Calls Try.prog 5 #[.agg (cellsOf a0), .int .u8 a1, .int .u64 a2] w fun e w' => e = .returned (.bool true) ∧ Below w.heap.size w w' := by
  have I : Hid (∀ W, _) := Lib.hid (fun W => isInt_any ((k : Int) + 1) W)
  rw [isIB_isI k hk, hi, Int.add_comm] at I
  have R : Hid (∀ W, Calls Try.prog 13 #[.agg (cellsOf a0), .int .i64 (1 + (k : Int)), .int .u64 a2] W fun e w' => e = .returned (.tuple #[.agg (cellsOf (upd a0 k a2)), .bool true]) ∧ Below W.heap.size W w') := Lib.hid (fun W => by
    rw [Int.add_comm]
    exact set_amount a0 k a2 W hk hi)
  have L := Lib.hid alive_any
  have VA := Lib.hid (values_any a0)
  have VB := Lib.hid (values_any (upd a0 k a2))
  have HI := Lib.hid hi
  clear hi
  have K0 : Keeps w.heap.size w.heap.size 24 (cellsOf a0) w (w.alloc (.cells (cellsOf a0) 24)) := Keeps.new (Below.refl _ _) (Nat.le_refl _)
  have HU := Lib.hid (vals_upd a0 k hk a2 (by omega) (by omega))
  unfold cellsOf
  go_enter Try.func5, Try.ntmps5
  go_upto_region 6 with (first
    | (refine wpList_load_rowG (o := ⟨_, .load 24 _, _, _, _, _⟩) rfl 24 _ rfl w.heap.size rfl 24 (cellsOf a0) (0, 0) _ K0.heap Try.underlying24 rfl info24 ?_)
    | (refine wpList_load_rowG (o := ⟨_, .load 24 _, _, _, _, _⟩) rfl 24 _ rfl w.heap.size rfl 24 (cellsOf a0) (0, 0) _ K3.heap Try.underlying24 rfl info24 ?_)
    | (go_at_call 14; refine (I.out _).mono ?_; rintro e wI ⟨rfl, rfl⟩)
    | (go_at_call 13; refine (Keeps.call K0 (R.out _)).mono ?_; rintro e w2 ⟨rfl, K2⟩; clear K0; have K3 := K2.alloc (.cells (cellsOf (upd a0 k a2)) 24); have KD := Keeps.new (t := 24) (cs := cellsOf (upd a0 k a2)) K2.2.1 K2.2.2)
    | (refine wpList_store_row (o := ⟨_, .store 24 _ _, _, _, _, _⟩) rfl _ _ _ rfl w2.heap.size (cellsOf (upd a0 k a2)) rfl rfl 24 _ (heap_alloc_new w2 _) info24 rfl (cells_one _) ?_; rw [World.setRow_alloc_new])
    | (go_at_call 15; refine (Keeps.call2 ⟨K3, KD⟩ (VA.out _)).mono ?_; rintro e w4 ⟨rfl, K4, KD4⟩; clear K2 K3 KD; have K5 := K4.alloc (.cells (valsOf a0) 32); have KD5 := KD4.alloc (.cells (valsOf a0) 32); have KV := Keeps.new (t := 32) (cs := valsOf a0) K4.2.1 K4.2.2)
    | (refine wpList_store_row (o := ⟨_, .store 32 _ _, _, _, _, _⟩) rfl _ _ _ rfl w4.heap.size (valsOf a0) rfl rfl 32 _ (heap_alloc_new w4 _) info32 rfl (vals_one _) ?_; rw [World.setRow_alloc_new]))
  have hcv : (w4.alloc (.cells (valsOf a0) 32)).cell? ⟨w4.heap.size, k, none⟩ = some (.int .u64 (valAt a0 k)) := (KV.1.cell k).trans (vals_at a0 k hk)
  have hfv : (w4.alloc (.cells (valsOf a0) 32)).frozen? ⟨w4.heap.size, k, none⟩ = false := KV.1.frozen k
  go_upto_region 7 with (fail)
  rw [HU.out]
  have KD6 := KD4.alloc (.cells (valsOf (upd a0 k a2)) 32)
  have KV6 := Keeps.new (t := 32) (cs := valsOf (upd a0 k a2)) K4.2.1 K4.2.2
  refine wp_region_class (fun W => Keeps w.heap.size w2.heap.size 24 (cellsOf (upd a0 k a2)) w W ∧ Keeps w.heap.size w4.heap.size 32 (valsOf (upd a0 k a2)) w W) (by kernel_rfl) (by kernel_rfl) ⟨KD6.drew, KV6.drew⟩ ?_
  refine q_call (.bool true) #[] rfl (by kernel_rfl) Try.call10 (fun _ h => Keeps.call2 h (L.out _)) ?_
  simp only [Act.put, List.setIfInBounds_toArray, List.set_cons_zero, List.set_cons_succ]
  refine q_val (.bool true) rfl (fun _ => by go_simp) ?_
  simp only [Act.put, List.setIfInBounds_toArray, List.set_cons_zero, List.set_cons_succ]
  refine q_val (.bool true) rfl (fun _ => by go_simp) ?_
  simp only [Act.put, List.setIfInBounds_toArray, List.set_cons_zero, List.set_cons_succ]
  refine q_val (.bool true) rfl (fun _ => by go_simp) ?_
  simp only [Act.put, List.setIfInBounds_toArray, List.set_cons_zero, List.set_cons_succ]
  refine q_val (.bool true) rfl (fun _ => by go_simp) ?_
  simp only [Act.put, List.setIfInBounds_toArray, List.set_cons_zero, List.set_cons_succ]
  refine q_load 24 (.tmp 8) w2.heap.size 24 (cellsOf (upd a0 k a2)) _ rfl rfl rfl (fun _ h => h.1.1) Try.underlying24 rfl (info24' _) ?_
  simp only [Act.put, List.setIfInBounds_toArray, List.set_cons_zero, List.set_cons_succ]
  refine q_call (.agg (valsOf (upd a0 k a2))) #[.agg (cellsOf (upd a0 k a2))] rfl (by kernel_rfl) Try.call15 (fun _ h => Keeps.call2 h (VB.out _)) ?_
  simp only [Act.put, List.setIfInBounds_toArray, List.set_cons_zero, List.set_cons_succ]
  refine q_load 32 (.tmp 10) w4.heap.size 32 (valsOf (upd a0 k a2)) _ rfl rfl rfl (fun _ h => h.2.1) Try.underlying32 rfl info32 ?_
  simp only [Act.put, List.setIfInBounds_toArray, List.set_cons_zero, List.set_cons_succ]
  refine q_val (.bool true) rfl (fun W => exec_same W (xs := valsOf (upd a0 k a2)) rfl rfl Try.eqGuardType32 (same32 _ W)) ?_
  simp only [Act.put, List.setIfInBounds_toArray, List.set_cons_zero, List.set_cons_succ]
  refine q_val (.bool true) rfl (fun _ => by go_simp) ?_
  simp only [Act.put, List.setIfInBounds_toArray, List.set_cons_zero, List.set_cons_succ]
  refine q_val (.bool true) rfl (fun _ => by go_simp) ?_
  simp only [Act.put, List.setIfInBounds_toArray, List.set_cons_zero, List.set_cons_succ]
  refine wpQuiet_nil ?_
  intro w6 K6
  have hbl := K6.1.2.1
  clear K6 KD6 KV6 K4 KD4 K5 KD5 KV hcv hfv
  go_wp2_with (fail)
  go_ret
  exact ⟨rfl, hbl⟩

theorem walk_ConfigSets (a0 : Nat → Int) (a1 : Int) (a2 : Int) (w : World) (w0 : Fits a0) (w1 : (Lit.int .u8 a1).wf = true) (w2 : (Lit.int .u64 a2).wf = true) : Calls Try.prog 5 #[.agg (cellsOf a0), .int .u8 a1, .int .u64 a2] w fun e w' => e = .returned (.bool true) ∧ Below w.heap.size w w' := by
  obtain ⟨g0, g1⟩ := bounds_u8 w1
  obtain ⟨h0, h1⟩ := bounds_u64 w2
  obtain ⟨k, hk⟩ : ∃ k : Nat, a1 % 20 = (k : Int) := ⟨(a1 % 20).toNat, by omega⟩
  have hk20 : k < 20 := by omega
  cases hi : isI k
  · exact sets_amount a0 a1 a2 k w hk20 hi g0 g1 hk h0 h1
  · exact sets_number a0 a1 a2 k w hk20 hi g0 g1 hk h0 (by omega) (by omega) h1
end Go.Proofs.Ytlnpppifdobcfaa
