/- The chapter's example holds. -/
import Derived.Test.YthnhpmeacboljaaBld
namespace Go.Proofs.Ythnhpmeacboljaa
open Go Go.RowKit Go.Deep
set_option linter.unusedVariables false
set_option linter.unusedSimpArgs false
set_option maxRecDepth 100000

theorem rcAt_none {r : Rc} (h : RcNums r) (w : World) (S : Nat → Prop) (h1 : r.an = 0 ∧ r.ac = 0 ∧ r.pn = 0 ∧ r.pc = 0) : RcAt w S r [] [] := by
  obtain ⟨e1, e2, e3, e4⟩ := h1
  exact ⟨h, LstR.nil _ _ _, by simp [e1], by rw [e1, e2]; unfold maxLen; omega, by simp, LstR.nil _ _ _, by simp [e3], by rw [e3, e4]; unfold maxLen; omega, by simp⟩
def alO1 : Oq := ⟨2, 3, 0, 0⟩
def alO2 : Oq := ⟨7, 0, 0, 0⟩
def alR1 : Rc := accR 2 3 8 4 1
def alR2 : Rc := ⟨7, 0, -1, 36, 9, -1, none, 0, 0, none, 0, 0, 0⟩
theorem alR1_at (w : World) (S : Nat → Prop) : RcAt w S alR1 [] [] := rcAt_none ⟨by unfold I64; decide, by unfold I64; decide, by unfold I64; decide, by unfold I64; decide, by unfold I64; decide, by unfold I64; decide, by unfold I64; decide⟩ w S ⟨rfl, rfl, rfl, rfl⟩
theorem alR2_at (w : World) (S : Nat → Prop) : RcAt w S alR2 [] [] := rcAt_none ⟨by unfold I64; decide, by unfold I64; decide, by unfold I64; decide, by unfold I64; decide, by unfold I64; decide, by unfold I64; decide, by unfold I64; decide⟩ w S ⟨rfl, rfl, rfl, rfl⟩
def alS1 : St := addS st0 ⟨alO1, alR1, [], []⟩
def alS2 : St := addS alS1 ⟨alO2, alR2, [], []⟩
theorem al_order : ofCls alS1 1 = [3] := by decide +kernel
theorem al_early : srt (lateL alS1) = [] := by
  rw [show lateL alS1 = [] by decide +kernel]
  unfold srt
  simp
theorem al_late : srt (lateL alS2) = [3] := by
  rw [show lateL alS2 = [3] by decide +kernel]
  unfold srt
  simp
theorem al_small : alS1.od.length ≤ 1000000 ∧ alS2.od.length ≤ 1000000 ∧ (∀ i, (alS1.py i).length = 0) ∧ (∀ i, (alS1.an i).length = 0) := ⟨by decide +kernel, by decide +kernel, fun i => rfl, fun i => rfl⟩
/-- A log of a function's own. -/
def Al (w wr : World) (b : Nat) (s : St) (n : Int) : Prop := ∃ T, LgAt wr b T s n ∧ (∀ i, T i → w.heap.size ≤ i) ∧ Below w.heap.size w wr
section
variable {w wr w' : World} {b : Nat} {s s' : St} {n n' : Int}
theorem Al.below (h : Al w wr b s n) (hb : Below wr.heap.size wr w') : Al w w' b s n := by
  obtain ⟨T, h1, h2, h3⟩ := h
  exact ⟨T, h1.below hb, h2, h3.trans (hb.mono h3.size)⟩
theorem Al.bel (h : Al w wr b s n) : Below w.heap.size w wr := h.choose_spec.2.2
theorem Al.add (h : Al w wr b s n) (o : Oq) (r : Rc) (hr : ∀ S, RcAt wr S r [] []) (hn : 0 ≤ n ∧ n ≤ 1000000) (hl : s.od.length ≤ 1000000) (hp : ∀ i, (s.py i).length = 0) (ha : ∀ i, (s.an i).length = 0) :
    Calls Try.prog 25 #[.pointer (some ⟨b, 0, none⟩), .agg (cellsOq o), .agg (cellsRc r)] wr fun e w' => e = .returned (.tuple #[]) ∧ Al w w' b (addS s ⟨o, r, [], []⟩) (n + 1) := by
  obtain ⟨T, h1, h2, h3⟩ := h
  refine (add_go b T s n o r [] [] wr h1 (hr T) hn hl (fun i => by rw [hp]; simp) (fun i => by rw [ha]; simp)).mono ?_
  rintro e w' ⟨rfl, T', k1, k2, k3, k4⟩
  refine ⟨rfl, T', k1, fun i hi => ?_, Kept.below h3 k4 h2 h3.size⟩
  rcases k3 i hi with k | k
  · exact h2 i k
  · exact Nat.le_trans h3.size k
end
/-- A row of ints of one's own as the comparisons read it. -/
theorem OwnI.at {w : World} {base cp : Nat} {a : Option Addr} {l : List Int} (h : OwnI w base (.slice a l.length cp) l) : IntsAt w (fun _ => False) a l := fun h0 => by
  rcases h.2 with ⟨h1, h2⟩ | ⟨g, cap, cur, h1, h2, h3, h4, h5, h6⟩
  · omega
  · injection h1 with h1 _ _
    refine ⟨g, 0, h1, fun h => h, (Array.getElem?_eq_some_iff.1 h3).1, fun j hj => ?_⟩
    have := World.ownsRow.cells h (g := g) (by rw [h1]; rfl) j (.int .i64 (l.getD j 0)) (by rw [List.getElem?_map, List.getD_eq_getElem?_getD, List.getElem?_eq_getElem hj]; rfl)
    rwa [add_plain] at this
set_option maxHeartbeats 6400000 in
theorem alive_any (w : World) : Calls Try.prog 8 #[] w fun e w' => e = .returned (.bool true) ∧ Below w.heap.size w w' := by
  have HA1 := Lib.hid (fun w => accept_any alO1 3 8 4 1 w)
  have HR1 := Lib.hid alR1_at
  have HR2 := Lib.hid alR2_at
  have HS := Lib.hid al_small
  go_enter Try.func8, Try.ntmps8
  go_wp2_with (fail)
  refine (new_any w).mono ?_
  rintro e w1 ⟨b, rfl, T, h1, h2, h3⟩
  have A1 : Hid (Al w w1 b st0 0) := Lib.hid ⟨T, h1, h2, h3⟩
  clear h1 h2 h3 T
  go_upto_region 5 with (first | (refine wpList_build_Oq rfl 57 _ rfl alO1 (by kernel_rfl) ?_) | (refine wpList_store_row rfl _ _ _ rfl w1.heap.size (cellsOq alO1) rfl rfl 57 _ (heap_alloc_new w1 _) infoOq rfl (cellsOq_one _) ?_; rw [World.setRow_alloc_new]))
  have A2 : Hid (Al w (w1.alloc (.cells (cellsOq alO1) 57)).drew b st0 0) := Lib.hid ((A1.out.below ((Below.refl _ _).alloc (Nat.le_refl _) _)).below (below_drewN (Below.refl _ _) 1))
  have KO : Hid (Blk (w1.alloc (.cells (cellsOq alO1) 57)).drew w1.heap.size 57 (cellsOq alO1)) := Lib.hid (Blk.new _ _ _).drew
  clear A1
  generalize w1.alloc (.cells (cellsOq alO1) 57) = w2 at *
  generalize w1.heap.size = ob at *
  clear w1
  try simp only [Act.put]
  refine wp_region_first (fun w' => Blk w' ob 57 (cellsOq alO1)) 4 1 [0, 1, 2] (by kernel_rfl) (by kernel_rfl) KO.out ?_
  simp only [List.filterMap_cons, List.filterMap_nil, List.getElem?_toArray, List.getElem?_cons_zero, List.getElem?_cons_succ]
  show wpQuiet _ _ _ _ [_, _, _] _
  iterate 1 (go_big_quiet_step ((intros; rfl)))
  refine q_load_Oq 57 _ ob 0 alO1 _ rfl rfl rfl (fun w' h => h.rangeOq) Try.underlying57 rfl infoOq ?_
  simp only [Act.put, List.setIfInBounds_toArray, List.set_cons_zero, List.set_cons_succ]
  refine q_load_Oq 57 _ ob 0 alO1 _ rfl rfl rfl (fun w' h => h.rangeOq) Try.underlying57 rfl infoOq ?_
  simp only [Act.put, List.setIfInBounds_toArray, List.set_cons_zero, List.set_cons_succ]
  refine wpQuiet_nil ?_
  refine headF_one (i := 3) (by kernel_rfl) (by omega) ?_
  refine wpOp_at rfl rfl (wp_call_at rfl #[.agg (cellsOq alO1), .int .i64 3, .int .i64 8, .int .i64 4, .int .i64 1] (by kernel_rfl) Try.call26 ((HA1.out w2.drew).mono ?_))
  rintro e w3 ⟨rfl, hb⟩
  have A3 := Lib.hid (A2.out.below hb)
  refine ⟨_, rfl, KO.out.below hb KO.out.lt, ?_⟩
  clear hb A2 KO HA1
  clear w2
  have HAR : Hid (accR alO1.kd 3 8 4 1 = alR1) := Lib.hid rfl
  rw [HAR.out]
  simp only [Act.put, List.getElem_toArray, List.getElem_cons_zero, List.getElem_cons_succ, List.setIfInBounds_toArray, List.set_cons_zero, List.set_cons_succ]
  show Region.seqB _ _ _ _ _ = true ∧ _
  refine ⟨by kernel_rfl, ?_⟩
  simp only [Act.put, List.getElem_toArray, List.getElem_cons_zero, List.getElem_cons_succ, List.setIfInBounds_toArray, List.set_cons_zero, List.set_cons_succ, List.drop_succ_cons, List.drop_zero]
  go_wp2_with (fail)
  refine (A3.out.add alO1 alR1 (fun S => HR1.out w3 S) (by omega) (by simp [st0]) (fun i => rfl) (fun i => rfl)).mono ?_
  rintro e w4 ⟨rfl, h4⟩
  have A4 : Hid (Al w w4 b alS1 1) := Lib.hid h4
  clear h4 A3
  clear w3
  go_wp2_with (fail)
  refine NoPanic.normal ?_
  go_wp2_with (fail)
  obtain ⟨T4, g4, g5, g6⟩ := A4.out
  have G4 := Lib.hid g4
  have GE := Lib.hid g5
  have B4 := Lib.hid g6
  obtain ⟨n4, hn4⟩ : ∃ n4, w4.heap.size = n4 := ⟨_, rfl⟩
  have HT4 : Hid (∀ i, T4 i → i < n4) := Lib.hid (by rw [← hn4]; exact g4.lt)
  clear g4 g5 g6 A4
  refine (order_any b T4 alS1 1 1 w4 G4.out HS.out.1).mono ?_
  rw [al_order]
  rintro e w5 ⟨a1, c1, rfl, ho, hb⟩
  rw [hn4] at ho
  have HO1 := Lib.hid ho
  have G5 := Lib.hid (G4.out.below hb)
  have B5 := Lib.hid (B4.out.trans (hb.mono B4.out.size))
  clear ho hb hn4 G4 B4
  clear w4
  go_wp2_with (fail)
  refine (late_any b T4 alS1 1 w5 G5.out HS.out.1).mono ?_
  rw [al_early]
  rintro e w6 ⟨a2, c2, rfl, -, hb⟩
  have HO2 := Lib.hid (HO1.out.below hb)
  have G6 := Lib.hid (G5.out.below hb)
  have B6 := Lib.hid (B5.out.trans (hb.mono B5.out.size))
  clear hb G5 B5 HO1
  clear w5
  go_wp2_with (first | (refine wpList_build_Oq rfl 57 _ rfl alO2 (by kernel_rfl) ?_) | (refine wpList_build_Rc rfl 60 _ rfl alR2 (by kernel_rfl) ?_))
  refine (add_go b T4 alS1 1 alO2 alR2 [] [] w6 G6.out (HR2.out w6 T4) (by omega) HS.out.1 (fun i => by rw [HS.out.2.2.1]; simp) (fun i => by rw [HS.out.2.2.2]; simp)).mono ?_
  rintro e w7 ⟨rfl, T7, k1, k2, k3, k4⟩
  have G7 : Hid (LgAt w7 b T7 alS2 2) := Lib.hid k1
  have B7 : Hid (Below w.heap.size w w7) := Lib.hid (Kept.below B6.out k4 GE.out B6.out.size)
  have I7 : Hid (IntsAt w7 (fun _ => False) a1 [3]) := Lib.hid (by
    have h := HO2.out.at
    refine IntsAt.kept (S := T4) (T := T4) (fun h0 => ?_) k4 (fun _ _ h => h) |>.other (fun i _ hf => hf.elim)
    rcases HO2.out.2 with ⟨h1, h2⟩ | ⟨g, cap, cur, h1, h2, h3, h5⟩
    · cases h2
    · injection h1 with h1 _ _
      obtain ⟨b', off, e1, _, e3, e4⟩ := h h0
      rw [h1] at e1
      injection e1 with e1
      injection e1 with e1 e1b
      subst e1 e1b
      exact ⟨g, 0, h1, fun ht => by have := HT4.out _ ht; omega, e3, e4⟩)
  clear k1 k2 k3 k4 HO2 G6 B6 GE HT4 T4
  clear w6
  go_wp2_with (fail)
  have BA : Hid (Below w7.heap.size w7 (w7.alloc (.cells #[.int .i64 3] 3))) := Lib.hid ((Below.refl _ _).alloc (Nat.le_refl _) _)
  refine (equal_any (n := 1) (m := 1) (I7.out.below BA.out) (IntsAt.of_blk (S := fun _ => False) (L := [3]) (Blk.new w7 3 #[.int .i64 3]) (fun h => h)) rfl rfl (by omega) (by omega)).mono ?_
  rintro e w8 ⟨rfl, q8, rfl⟩
  have hd : decide (([3] : List Int) = [3]) = true := by decide
  rw [hd]
  have G8 : Hid (LgAt ((w7.alloc (.cells #[.int .i64 3] 3)).drewN q8) b T7 alS2 2) := Lib.hid ((G7.out.below BA.out).below (below_drewN (Below.refl _ _) q8))
  have B8 : Hid (Below w.heap.size w ((w7.alloc (.cells #[.int .i64 3] 3)).drewN q8)) := Lib.hid (below_drewN (B7.out.trans (BA.out.mono B7.out.size)) q8)
  clear G7 B7 I7 BA hd
  generalize (w7.alloc (.cells #[.int .i64 3] 3)).drewN q8 = w8 at *
  generalize w7.heap.size = n7 at *
  clear w7
  go_wp2_with (fail)
  refine (late_any b T7 alS2 2 w8 G8.out HS.out.2.1).mono ?_
  rw [al_late]
  rintro e w9 ⟨a9, c9, rfl, ho, hb⟩
  have I9 : Hid (IntsAt w9 (fun _ => False) a9 [3]) := Lib.hid (OwnI.at ho)
  have G9 := Lib.hid (G8.out.below hb)
  have B9 := Lib.hid (B8.out.trans (hb.mono B8.out.size))
  clear ho hb G8 B8
  clear w8
  go_wp2_with (fail)
  have BA : Hid (Below w9.heap.size w9 (w9.alloc (.cells #[.int .i64 3] 3))) := Lib.hid ((Below.refl _ _).alloc (Nat.le_refl _) _)
  refine (equal_any (n := 1) (m := 1) (I9.out.below BA.out) (IntsAt.of_blk (S := fun _ => False) (L := [3]) (Blk.new w9 3 #[.int .i64 3]) (fun h => h)) rfl rfl (by omega) (by omega)).mono ?_
  rintro e w10 ⟨rfl, q8, rfl⟩
  have hd : decide (([3] : List Int) = [3]) = true := by decide
  rw [hd]
  have G8 : Hid (LgAt ((w9.alloc (.cells #[.int .i64 3] 3)).drewN q8) b T7 alS2 2) := Lib.hid ((G9.out.below BA.out).below (below_drewN (Below.refl _ _) q8))
  have B8 : Hid (Below w.heap.size w ((w9.alloc (.cells #[.int .i64 3] 3)).drewN q8)) := Lib.hid (below_drewN (B9.out.trans (BA.out.mono B9.out.size)) q8)
  clear G9 B9 I9 BA hd
  generalize (w9.alloc (.cells #[.int .i64 3] 3)).drewN q8 = w8 at *
  generalize w9.heap.size = n9 at *
  clear w9
  go_wp2_with (fail)
  refine (len_any b T7 alS2 2 w8 G8.out).mono ?_
  rintro e w' ⟨rfl, rfl⟩
  go_wp2_with (fail)
  go_ret
  exact ⟨rfl, B8.out⟩
end Go.Proofs.Ythnhpmeacboljaa
