/- For all pairs and validators, Exit answers as the reference does; Len tells the number of pairs. -/
import Derived.Test.YthnhpmeacboljaaLaw
namespace Go.Proofs.Ythnhpmeacboljaa
open Go Go.RowKit Go.Deep
set_option linter.unusedVariables false
set_option linter.unusedSimpArgs false
set_option maxRecDepth 100000

set_option maxHeartbeats 6400000 in
theorem walk_HistoryExits (a0 : Option Addr) (len0 cap0 : Nat) (a1 : Int) (w : World) (w0 : IsPqs w a0 len0 cap0) (w1 : (Lit.int .i64 a1).wf = true) :
    Calls Try.prog 3 #[.slice a0 len0 cap0, .int .i64 a1] w fun e w' => e = .returned (.bool true) ∧ Below w.heap.size w w' := by
  obtain ⟨L, hl, -, -, hp⟩ := pairs_of w0
  have HB := Lib.hid (build_law a0 len0 cap0 L w hp hl)
  have HL := Lib.hid hl
  have HI := Lib.hid w1
  have HV := Lib.hid alive_any
  clear w0 hp hl w1
  go_enter Try.func3, Try.ntmps3
  go_wp2_with (fail)
  refine HB.out.mono ?_
  clear HB
  rintro e x1 (⟨hn, -, b, rb, rfl, hb⟩ | ⟨rfl, hb⟩)
  · have H1 := Lib.hid hb.two
    have HN : Hid (L.length ≤ 60) := Lib.hid (by rw [HL.out]; exact hn)
    clear hb hn
    go_wp2_with (fail)
    refine (H1.out.exit a1 HI.out).mono ?_
    rintro e x2 ⟨rfl, hb⟩
    have H2 := Lib.hid (H1.out.below hb)
    clear hb H1
    clear x1
    have HOF : Hid (∀ x, Two w x b rb L → Calls Try.prog 10 #[.pointer (some ⟨rb, 0, none⟩), .int .i64 a1] x fun e w' => e = .returned (.tuple #[.agg (cellsXv ((exitV (stL L) a1).getD xvZ)), .bool (exitV (stL L) a1).isSome]) ∧ Below x.heap.size x w') := Lib.hid (fun x hx => hx.of a1 HN.out)
    generalize (exitV (stL L) a1).getD xvZ = x at *
    generalize (exitV (stL L) a1).isSome = rs at *
    go_upto_region 7 with (first | (refine wpList_store_row rfl _ _ _ rfl x2.heap.size (cellsXv x) rfl rfl 30 _ (heap_alloc_new x2 _) infoXv rfl (cellsXv_one _) ?_; rw [World.setRow_alloc_new]))
    have H3 := Lib.hid (H2.out.below (w' := x2.alloc (.cells (cellsXv x) 30)) ((Below.refl _ _).alloc (Nat.le_refl _) _))
    have KX : Hid (Blk (x2.alloc (.cells (cellsXv x) 30)) x2.heap.size 30 (cellsXv x)) := Lib.hid (Blk.new _ _ _)
    clear H2
    generalize x2.alloc (.cells (cellsXv x) 30) = x3 at *
    generalize x2.heap.size = xb at *
    clear x2
    go_wp2_with (fail)
    refine (HOF.out x3 H3.out).mono ?_
    rintro e x4 ⟨rfl, hb⟩
    have H4 := Lib.hid (H3.out.below hb)
    have KX4 := Lib.hid (KX.out.below hb KX.out.lt)
    clear hb H3 KX HOF
    clear x3
    go_upto_region 8 with (first | (refine wpList_store_row rfl _ _ _ rfl x4.heap.size (cellsXv x) rfl rfl 33 _ (heap_alloc_new x4 _) infoXvF rfl (cellsXv_one _) ?_; rw [World.setRow_alloc_new]))
    have H5 := Lib.hid (H4.out.below (w' := x4.alloc (.cells (cellsXv x) 33)) ((Below.refl _ _).alloc (Nat.le_refl _) _))
    have KX5 := Lib.hid (KX4.out.alloc (.cells (cellsXv x) 33))
    have KY5 : Hid (Blk (x4.alloc (.cells (cellsXv x) 33)) x4.heap.size 33 (cellsXv x)) := Lib.hid (Blk.new _ _ _)
    clear H4 KX4
    generalize x4.alloc (.cells (cellsXv x) 33) = x5 at *
    generalize x4.heap.size = yb at *
    clear x4
    go_wp2_with (fail)
    refine (HV.out x5).mono ?_
    rintro e x6 ⟨rfl, hb⟩
    have H6 := Lib.hid (H5.out.below hb)
    have KX6 := Lib.hid (KX5.out.below hb KX5.out.lt)
    have KY6 := Lib.hid (KY5.out.below hb KY5.out.lt)
    clear hb H5 KX5 KY5
    clear x5
    have hnn : ((len0 : Int) == (len0 : Int)) = true := by simp
    cases rs <;>
      (go_wp2_with (first | (refine wpList_load_rowG rfl 30 _ rfl xb rfl 30 (cellsXv x) (0, 0) _ KX6.out Try.underlying30 rfl infoXv ?_) | (refine wpList_load_rowG rfl 33 _ rfl yb rfl 33 (cellsXv x) (0, 0) _ KY6.out Try.underlying33 rfl infoXvF ?_) | (refine wpList_valG (o := ⟨some 37, .binOp .eql _ _ _ _, _, _, _, _⟩) (.bool true) rfl (exec_eqXv rfl rfl (by simp)) ?_))
       refine H6.out.len.mono ?_
       rintro e w' ⟨rfl, rfl⟩
       rw [HL.out]
       go_wp2_with (fail)
       go_ret
       exact ⟨rfl, H6.out.bel⟩)
  · have B1 := Lib.hid hb
    clear hb
    go_wp2_with (fail)
    refine (HV.out x1).mono ?_
    rintro e x2 ⟨rfl, hb⟩
    have B2 := Lib.hid (B1.out.trans (hb.mono B1.out.size))
    clear hb B1
    go_wp2_with (fail)
    go_ret
    exact ⟨rfl, B2.out⟩
end Go.Proofs.Ythnhpmeacboljaa
