/- The walk of MeterRejects. -/
import Derived.Test.YtbebmdbhoombgaaWMeterConserves
namespace Go.Proofs.Ytbebmdbhoombgaa
open Go Go.RowKit Go.OpenShut
set_option linter.unusedVariables false
set_option linter.unusedSimpArgs false

theorem totals_same (D P B : Int) (w : World) : (Op.equalIn 10000 35 (.agg #[.int .u64 D, .int .u64 P, .int .u64 B]) (.agg #[.int .u64 D, .int .u64 P, .int .u64 B])).run Try.prog w = .ok true w := by
  refine equal_struct_same w _ Try.underlying35 (by kernel_rfl) (fun f hf => ?_)
  simp only [List.mem_cons, List.not_mem_nil, or_false] at hf
  rcases hf with rfl | rfl | rfl
  · exact ⟨.u64, D, Try.underlying26, rfl⟩
  · exact ⟨.u64, P, Try.underlying26, rfl⟩
  · exact ⟨.u64, B, Try.underlying26, rfl⟩
theorem Both.own {w w' : World} {b d : Nat} {B S T D : Int} (h : Both w' w.heap.size b d B S T D) (k : Below w.heap.size w w') : Own w w' b B S T D := ⟨h.1, h.2.2.2.1, k, h.fits⟩
theorem Own.alloc {w0 w : World} {b : Nat} {B S T D : Int} (h : Own w0 w b B S T D) (o : Obj) : Own w0 (w.alloc o) b B S T D := h.below ((Below.refl _ w).alloc (Nat.le_refl _) o)

set_option maxHeartbeats 1600000 in
theorem walk_MeterRejects (a0 : Option Addr) (len0 cap0 : Nat) (a1 : Int) (w : World) (w0 : IsOps w a0 len0 cap0) (w1 : (Lit.int .u64 a1).wf = true) :
    Calls Try.prog 5 #[.slice a0 len0 cap0, .int .u64 a1] w fun e w' => e = .returned (.bool true) ∧ Below w.heap.size w w' := by
  obtain ⟨u0, u1⟩ := bounds_u64 w1
  clear w1
  have W1 := Lib.hid w0
  have hl1 : len0 ≤ 9223372036854775807 := by have := w0.1; have := w0.2.1; unfold maxLen at this; omega
  clear w0
  go_enter Try.func5, Try.ntmps5
  go_wp2_with fail
  refine (Own.new _).mono ?_
  rintro e w1 ⟨rfl, o1, s1, b1⟩
  have BO : Hid (Both (w1.alloc (.cells #[.int .u64 0, .int .u64 0, .int .u64 0, .int .u64 0, .int .u64 0] 28)) w.heap.size w.heap.size w1.heap.size 0 0 0 0) := Lib.hid (Both.new_ o1.out s1.out)
  have B2 : Hid (Below w.heap.size w (w1.alloc (.cells #[.int .u64 0, .int .u64 0, .int .u64 0, .int .u64 0, .int .u64 0] 28))) := Lib.hid (b1.out.alloc b1.out.size _)
  clear o1 s1 b1
  by_cases h1000 : (1000 : Int) < (len0 : Int)
  · go_wp2_with fail
    generalize w1.alloc (.cells #[.int .u64 0, .int .u64 0, .int .u64 0, .int .u64 0, .int .u64 0] 28) = w2 at *
    refine (alive_any _).mono ?_
    rintro e w3 ⟨rfl, b3⟩
    go_wp2_with fail
    go_ret
    exact ⟨rfl, B2.out.trans (b3.mono B2.out.size)⟩
  · go_wp2_with fail
    generalize w1.alloc (.cells #[.int .u64 0, .int .u64 0, .int .u64 0, .int .u64 0, .int .u64 0] 28) = w2 at *
    generalize w1.heap.size = v at *
    go_loopw [23] (fun s23 wr => ∃ (k : Nat) (B S T D : Int), k ≤ len0 ∧ s23 = .int .i64 k ∧ Hid (Both wr w.heap.size w.heap.size v B S T D ∧ Below w.heap.size w wr)) (fun s23 _ => len0 - (intOf s23).toNat)
    case atStart => exact ⟨0, 0, 0, 0, 0, by omega, rfl, Lib.hid ⟨BO.out, B2.out⟩⟩
    case round =>
      obtain ⟨k, B, S, T, D, hk, rfl, H⟩ := hrel
      by_cases hlt : k < len0
      · obtain ⟨b, off, kd, x, rfl, x1, x2, hx⟩ := W1.out.at H.out.2 hlt
        obtain ⟨y0, y1⟩ := bounds_u64 hx
        have BR' : Hid (Both (wr.alloc (.cells #[.int .i64 kd, .int .u64 x] 31)) w.heap.size w.heap.size v B S T D) := Lib.hid (H.out.1.alloc _)
        have BB' : Hid (Below w.heap.size w (wr.alloc (.cells #[.int .i64 kd, .int .u64 x] 31))) := Lib.hid (H.out.2.alloc H.out.2.size _)
        clear H hx
        go_wp2_with fail
        clear x1 x2
        generalize wr.alloc (.cells #[.int .i64 kd, .int .u64 x] 31) = W at *
        refine (do_any _ _ _ kd x B S T D W BR'.out y0).mono ?_
        rintro e w5 ⟨B', S', T', D', rfl, bo, bel, _⟩
        have BO5 := Lib.hid bo
        have B5 := Lib.hid (bel w BB'.out)
        clear bo bel BR' BB'
        go_wp2_with fail
        go_roundw
        case rel => exact ⟨k + 1, B', S', T', D', by omega, by go_num, Lib.hid ⟨BO5.out, B5.out⟩⟩
        case measure => simp [intOf]; omega
      · obtain rfl : k = len0 := by omega
        clear hlt
        have hlt : ¬ k < k := by omega
        have O1 : Hid (Own w wr w.heap.size B S T D) := Lib.hid (H.out.1.own H.out.2)
        have HF : Hid (0 ≤ B ∧ 0 ≤ S ∧ B + S ≤ 18446744073709551615) := Lib.hid (by have := H.out.1.fits; unfold Fits at this; omega)
        clear H
        go_wp2_with fail
        refine O1.out.balance.mono ?_
        rintro e w3 ⟨rfl, O3, _⟩
        clear O1
        go_wp2_with fail
        refine O3.out.spent.mono ?_
        rintro e w4 ⟨rfl, O4, _⟩
        clear O3
        go_wp2_with fail
        refine O4.out.totals.mono ?_
        rintro e w5 ⟨rfl, O5, _⟩
        clear O4
        have O6 : Hid (Own w (w5.alloc (.cells #[.int .u64 (gOf B T D), .int .u64 T, .int .u64 D] 35)) w.heap.size B S T D) := Lib.hid (O5.out.alloc _)
        have T6 : Hid (Blk (w5.alloc (.cells #[.int .u64 (gOf B T D), .int .u64 T, .int .u64 D] 35)) w5.heap.size 35 #[.int .u64 (gOf B T D), .int .u64 T, .int .u64 D]) := Lib.hid (Blk.new _ _ _)
        have HN : Hid (some w5.heap.size ≠ some w.heap.size) := Lib.hid (fun e => by have := Blk.lt O5.out.1; injection e; omega)
        clear O5
        go_wp2_with (first | (refine wpList_store_row rfl _ _ _ rfl w5.heap.size #[.int .u64 (gOf B T D), .int .u64 T, .int .u64 D] rfl rfl 35 _ (heap_alloc_new w5 _) infoT rfl rfl ?_; rw [World.setRow_alloc_new]) | fail)
        generalize w5.alloc (.cells #[.int .u64 (gOf B T D), .int .u64 T, .int .u64 D] 35) = V at *
        generalize w5.heap.size = g at *
        by_cases h : a1 ≤ B
        · refine (O6.out.take (x := a1) u0 h rfl rfl).mono ?_
          rintro e w6 ⟨rfl, T', O7, _⟩
          obtain ⟨f0, f1, f2⟩ := HF.out
          have q1 : IntKind.u64.wrap (B - a1) = B - a1 := IntWalk.u64_in _ (by omega)
          have q2 : IntKind.u64.wrap (S + a1) = S + a1 := IntWalk.u64_in _ (by omega)
          clear O6 T6 HN HF
          go_wp2_with fail
          refine (alive_any _).mono ?_
          rintro e w7 ⟨rfl, b7⟩
          have O8 := Lib.hid (O7.out.below b7)
          clear b7 O7
          go_wp2_with fail
          refine O8.out.balance.mono ?_
          rintro e w8 ⟨rfl, O9, _⟩
          clear O8
          go_wp2_with fail
          refine O9.out.spent.mono ?_
          rintro e w9 ⟨rfl, O10, _⟩
          clear O9
          go_wp2_with fail
          go_ret
          exact ⟨rfl, O10.out.2.2.1⟩
        · have h' : B < a1 := by omega
          refine (O6.out.refuse (x := a1) h').mono ?_
          rintro e w6 ⟨rfl, O7, g7⟩
          have T7 : Hid (Blk w6 g 35 #[.int .u64 (gOf B T D), .int .u64 T, .int .u64 D]) := Lib.hid (T6.out.grown g7.out HN.out)
          clear O6 T6 HN HF g7 h
          go_wp2
          refine wp_region_class (fun w' => Own w w' w.heap.size B S T D ∧ Blk w' g 35 #[.int .u64 (gOf B T D), .int .u64 T, .int .u64 D]) (by kernel_rfl) (by kernel_rfl) ⟨O7.out.drewN 1, Blk.drew T7.out⟩ ?_
          refine q_call (.bool true) #[] (by kernel_rfl) (by kernel_rfl) Try.call10 (fun w' h => (alive_any w').mono fun e w'' ⟨he, hb⟩ => ⟨he, h.1.below hb, h.2.below hb (Blk.lt h.2)⟩) ?_
          simp only [Act.put, List.setIfInBounds_toArray, List.set_cons_zero, List.set_cons_succ]
          iterate 7 (go_big_quiet_step ((intros; rfl)))
          refine q_call (.int .u64 B) #[.pointer (some ⟨w.heap.size, 0, none⟩)] (by kernel_rfl) (by kernel_rfl) Try.call12 (fun w' h => h.1.balance.mono fun e w'' ⟨he, ho, hb⟩ => ⟨he, ho.out, h.2.below hb.out (Blk.lt h.2)⟩) ?_
          simp only [Act.put, List.setIfInBounds_toArray, List.set_cons_zero, List.set_cons_succ]
          iterate 5 (go_big_quiet_step ((intros; rfl)))
          refine q_call (.int .u64 S) #[.pointer (some ⟨w.heap.size, 0, none⟩)] (by kernel_rfl) (by kernel_rfl) Try.call13 (fun w' h => h.1.spent.mono fun e w'' ⟨he, ho, hb⟩ => ⟨he, ho.out, h.2.below hb.out (Blk.lt h.2)⟩) ?_
          simp only [Act.put, List.setIfInBounds_toArray, List.set_cons_zero, List.set_cons_succ]
          iterate 5 (go_big_quiet_step ((intros; rfl)))
          refine q_call (.agg #[.int .u64 (gOf B T D), .int .u64 T, .int .u64 D]) #[.pointer (some ⟨w.heap.size, 0, none⟩)] (by kernel_rfl) (by kernel_rfl) Try.call14 (fun w' h => h.1.totals.mono fun e w'' ⟨he, ho, hb⟩ => ⟨he, ho.out, h.2.below hb.out (Blk.lt h.2)⟩) ?_
          simp only [Act.put, List.setIfInBounds_toArray, List.set_cons_zero, List.set_cons_succ]
          refine q_load 35 _ g 35 #[.int .u64 (gOf B T D), .int .u64 T, .int .u64 D] _ (by kernel_rfl) rfl rfl (fun _ h => h.2) Try.underlying35 rfl infoT ?_
          simp only [Act.put, List.setIfInBounds_toArray, List.set_cons_zero, List.set_cons_succ]
          refine q_val (.bool true) (by kernel_rfl) (fun W => exec_same W (xs := #[.int .u64 (gOf B T D), .int .u64 T, .int .u64 D]) rfl rfl Try.eqGuardType35 (totals_same _ _ _ W)) ?_
          simp only [Act.put, List.setIfInBounds_toArray, List.set_cons_zero, List.set_cons_succ]
          iterate 2 (go_big_quiet_step ((intros; rfl)))
          refine wpQuiet_nil ?_
          rintro w8 ⟨O8, _⟩
          have HO := Lib.hid O8
          clear O8 O7 T7
          go_wp2_with fail
          go_ret
          exact ⟨rfl, HO.out.2.2.1⟩
end Go.Proofs.Ytbebmdbhoombgaa
