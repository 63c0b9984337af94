/- record: a payment is appended, if there is one. -/
import Derived.Test.YtbieokgdjhkebaaPay
namespace Go.Proofs.Ytbieokgdjhkebaa
open Go Go.RowKit Go.Deep
set_option linter.unusedVariables false
set_option linter.unusedSimpArgs false
set_option maxRecDepth 100000

theorem rec_len_le (i x : Int) (P : List Py) : (P ++ recP i x).length ≤ P.length + 1 := by rw [List.length_append]; have := rec_len i x; omega
set_option maxHeartbeats 800000 in
theorem record_any (B b n : Nat) (v : Value) (P : List Py) (r : Rq) (w : World) (hO : w.ownsRow B 51 3 v n (flatR Py.row P)) (hn : P.length = n) (hB : B ≤ w.heap.size) (hb : Blk w b 29 (cellsRq r)) (h60 : n ≤ 4096) :
    Calls Try.prog 28 #[v, .slice (some ⟨b, 0, none⟩) 1 1] w fun e w' => ∃ v', e = .returned v' ∧ w'.ownsRow B 51 3 v' (P ++ recP r.ix r.am).length (flatR Py.row (P ++ recP r.ix r.am)) ∧ Kept (fun k => v.ownBlock = some k) w w' := by
  have HO := Lib.hid hO
  have HN := Lib.hid hn
  have HB := Lib.hid hb
  have HS := Lib.hid hB
  have HE := Lib.hid (fun w => empty_any r w)
  obtain ⟨j0, hj0, hz0, hs0, hby0⟩ := appPy
  have i1 : ¬ (0 : Int) < 0 := by omega
  by_cases h0 : r.am = 0
  · rw [decide_eq_true h0] at HE
    have E : Hid (P ++ recP r.ix r.am = P) := Lib.hid (by rw [recP, if_pos h0, List.append_nil])
    rw [E.out]
    clear hO hn hB hb h0 E
    go_enter Try.func28, Try.ntmps28
    go_wp2_with fail
    refine wp_loop_rounds 2 ?_
    rw [rounds_succ]
    go_wp2_with (first | (refine wpList_load_row rfl 29 _ rfl b rfl 29 _ (0, 0) _ HB.out Try.underlying29 rfl infoRq ?_) | (refine wpList_store_row rfl _ _ _ rfl w.heap.size (cellsRq r) rfl rfl 29 _ (heap_alloc_new w _) infoRq rfl (cellsRq_one _) ?_; rw [World.setRow_alloc_new]) | (refine wpList_load_row rfl 29 _ rfl w.heap.size rfl 29 _ (0, 0) _ (heap_alloc_new w _) Try.underlying29 rfl infoRq ?_))
    refine (HE.out _).mono ?_
    rintro e w1 ⟨rfl, b1⟩
    have A1 : Hid (Below w.heap.size w w1) := Lib.hid (((Below.refl _ w).alloc (Nat.le_refl _) _).trans (b1.mono (by simp)))
    clear b1
    go_wp2_with fail
    rw [rounds_succ]
    go_wp2_with fail
    go_ret
    refine ⟨_, rfl, ?_, Kept.of_below A1.out⟩
    rw [HN.out]
    exact ownsR_below HO.out A1.out
  · rw [decide_eq_false h0] at HE
    have E : Hid (P ++ recP r.ix r.am = P ++ [⟨r.ix, r.am, false⟩]) := Lib.hid (by rw [recP, if_neg h0])
    rw [E.out]
    clear hO hn hB hb h0 E
    go_enter Try.func28, Try.ntmps28
    go_wp2_with fail
    refine wp_loop_rounds 2 ?_
    rw [rounds_succ]
    go_wp2_with (first | (refine wpList_load_row rfl 29 _ rfl b rfl 29 _ (0, 0) _ HB.out Try.underlying29 rfl infoRq ?_) | (refine wpList_store_row rfl _ _ _ rfl w.heap.size (cellsRq r) rfl rfl 29 _ (heap_alloc_new w _) infoRq rfl (cellsRq_one _) ?_; rw [World.setRow_alloc_new]) | (refine wpList_load_row rfl 29 _ rfl w.heap.size rfl 29 _ (0, 0) _ (heap_alloc_new w _) Try.underlying29 rfl infoRq ?_))
    refine (HE.out _).mono ?_
    rintro e w1 ⟨rfl, b1⟩
    have K1 : Hid (Keeps w.heap.size w.heap.size 29 (cellsRq r) w w1) := Lib.hid (by
      have k := Keeps.new (t := 29) (cs := cellsRq r) (Below.refl w.heap.size w) (Nat.le_refl _)
      exact ⟨k.1.below b1 k.1.lt, k.2.1.trans (b1.mono k.2.2), Nat.le_trans k.2.2 b1.size⟩)
    have O1 : Hid (w1.ownsRow B 51 3 v n (flatR Py.row P)) := Lib.hid (ownsR_below HO.out K1.out.2.1)
    have x0 : w1.cell? ⟨w.heap.size, 0, none⟩ = some (.int .i64 r.ix) := K1.out.1.cell 0
    have x1 : w1.cell? ⟨w.heap.size, 1, none⟩ = some (.int .u64 r.am) := K1.out.1.cell 1
    clear b1 HB
    go_wp2_with (first | (refine wpList_build_Py rfl 51 _ rfl ⟨r.ix, r.am, false⟩ (by kernel_rfl) ?_) | (refine wpList_onePy rfl _ ⟨r.ix, r.am, false⟩ rfl rfl ?_) | (at_builtin; refine wpList_append_src _ rfl (.tmp 16) (.tmp 22) 42 rfl B 51 j0 _ 3 24 Try.underlying42 hj0 hz0 hs0 hby0 (cellsPy_size _) (by omega) v n (flatR Py.row P) rfl (World.ownsRow.alloc O1.out _) (some ⟨w1.heap.size, 0, none⟩) 1 1 (Py.row ⟨r.ix, r.am, false⟩) rfl rfl (fun _ => ⟨_, rfl, newR_cells w1 _ _⟩) (Py.row_one _) (by unfold maxLen; omega) (by omega) (by have := HS.out; have := K1.out.2.2; simp; omega) ?_; intro v1 w8 ho hg hv))
    have Z : Hid (w8.ownsRow B 51 3 v1 (n + 1) (flatR Py.row (P ++ [⟨r.ix, r.am, false⟩])) ∧ Kept (fun k => v.ownBlock = some k) w w8) := Lib.hid ⟨by rw [flatR_append, flatR_one]; exact ho, (Kept.of_below K1.out.2.1).alloc _ |>.trans (Kept.of_grown (S := fun k => v.ownBlock = some k) hg (fun i hi => hi.symm)) (fun _ _ h => h)⟩
    clear ho hg hv O1 K1 x0 x1
    go_wp2_with fail
    rw [rounds_succ]
    go_wp2_with fail
    go_ret
    refine ⟨_, rfl, ?_, Z.out.2⟩
    rw [List.length_append, HN.out]
    exact Z.out.1
end Go.Proofs.Ytbieokgdjhkebaa
