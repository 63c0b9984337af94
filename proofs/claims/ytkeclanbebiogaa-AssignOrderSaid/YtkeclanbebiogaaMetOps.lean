/- Take, Drop, Grant; the reference's. -/
import Derived.Test.YtkeclanbebiogaaMet
namespace Go.Proofs.Ytkeclanbebiogaa
open Go.RowKit
set_option linter.unusedVariables false
set_option maxRecDepth 100000
set_option linter.unusedSimpArgs false

theorem take_no (b : Nat) (B S T D x : Int) (w : World) (h : MetAt w b B S T D) (hF : Fits B S T D) (hx : x > B) :
    Calls Try.prog 33 #[.pointer (some ⟨b, 0, none⟩), .int .u64 x] w fun e w' => e = .returned (.bool false) ∧ ∃ m, w' = w.drewN m := by
  have H := Lib.hid (rest_any b B S T D w h hF)
  clear h hF
  go_enter Try.func33, Try.ntmps33
  go_wp2_with fail
  refine H.out.mono ?_
  rintro e w' ⟨rfl, m, rfl⟩
  go_wp2_with fail
  go_ret
  exact ⟨rfl, _, rfl⟩
/-- Taken: T' is the new total. -/
theorem take_yes (b : Nat) (B S T D T' x : Int) (w : World) (h : MetAt w b B S T D) (hF : Fits B S T D) (hx : x ≤ B) (hT : IntKind.u64.wrap (T + x) = T') (hG : gOf (B - x) T' D = gOf B T D) (hb : bOf T' (S + x) = bOf T S) :
    Calls Try.prog 33 #[.pointer (some ⟨b, 0, none⟩), .int .u64 x] w fun e w' => e = .returned (.bool true) ∧ MetAt w' b (B - x) (S + x) T' D ∧ w.grownBy w' (some b) := by
  have H := Lib.hid (rest_any b B S T D w h hF)
  obtain ⟨c0, c1, c2, c3⟩ := h.cells
  have z1 := Blk.frozen h 1
  have HE : Hid (∀ m, MetAt ((w.drewN m).setCell ⟨b, 1, none⟩ (.int .u64 T')) b (B - x) (S + x) T' D ∧ w.grownBy ((w.drewN m).setCell ⟨b, 1, none⟩ (.int .u64 T')) (some b)) := Lib.hid (fun m => ⟨by unfold MetAt; rw [hG, hb]; exact Blk.set_ (Blk.drewN h m) 1 _, only_setCell (only_drewN (only_refl _ _) m) (.inl rfl) _⟩)
  clear h hF hG hb c0 c2 c3
  go_enter Try.func33, Try.ntmps33
  go_wp2_with fail
  refine H.out.mono ?_
  rintro e w1 ⟨rfl, m, rfl⟩
  go_wp2_with fail
  go_ret
  exact ⟨rfl, HE.out m⟩
theorem drop_any (b : Nat) (B S T D D' : Int) (w : World) (h : MetAt w b B S T D) (hF : Fits B S T D) (hD : IntKind.u64.wrap (D + B) = D') (hG : gOf 0 T D' = gOf B T D) :
    Calls Try.prog 34 #[.pointer (some ⟨b, 0, none⟩)] w fun e w' => e = .returned (.int .u64 B) ∧ MetAt w' b 0 S T D' ∧ w.grownBy w' (some b) := by
  have H := Lib.hid (rest_any b B S T D w h hF)
  obtain ⟨c0, c1, c2, c3⟩ := h.cells
  have z1 := Blk.frozen h 2
  have HE : Hid (∀ m, MetAt ((w.drewN m).setCell ⟨b, 2, none⟩ (.int .u64 D')) b 0 S T D' ∧ w.grownBy ((w.drewN m).setCell ⟨b, 2, none⟩ (.int .u64 D')) (some b)) := Lib.hid (fun m => ⟨by unfold MetAt; rw [hG]; exact Blk.set_ (Blk.drewN h m) 2 _, only_setCell (only_drewN (only_refl _ _) m) (.inl rfl) _⟩)
  clear h hF hG c0 c1 c3
  go_enter Try.func34, Try.ntmps34
  go_wp2_with fail
  refine H.out.mono ?_
  rintro e w1 ⟨rfl, m, rfl⟩
  go_wp2_with fail
  go_ret
  exact ⟨rfl, HE.out m⟩
set_option maxHeartbeats 800000 in
theorem grant_any (b : Nat) (B S T D x p : Int) (w : World) (h : MetAt w b B S T D) (hF : Fits B S T D) (hp : (if 18446744073709551615 - B < x then 18446744073709551615 - B else x) = p) (hG : IntKind.u64.wrap (gOf B T D + p) = gOf (B + p) T D) (hN : Fits (B + p) 0 T D) (hb : bOf T 0 = T) :
    Calls Try.prog 31 #[.pointer (some ⟨b, 0, none⟩), .int .u64 x] w fun e w' => e = .returned (.int .u64 (B + p)) ∧ MetAt w' b (B + p) 0 T D ∧ w.grownBy w' (some b) := by
  have HF := Lib.hid hF
  have HH := Lib.hid h
  have HP := Lib.hid hp
  have hlast : Hid (∀ (w1 : World), MetAt w1 b (B + p) 0 T D → Calls Try.prog 42 #[.pointer (some ⟨b, 0, none⟩)] w1 fun e w' => e = .returned (.int .u64 (B + p)) ∧ ∃ m, w' = w1.drewN m) := Lib.hid (fun w1 h1 => rest_any b (B + p) 0 T D w1 h1 hN)
  have f0 := hF.1
  have f1 : B ≤ 18446744073709551615 := by have := hF.2.1; have := hF.2.2.1; omega
  generalize hq : B + p = q at *
  clear hq hp hF hN h
  go_enter Try.func31, Try.ntmps31
  go_wp2
  refine wp_region_first (fun w' => MetAt w' b B S T D) 13 4 [0, 1, 2, 3, 4, 5, 6, 7, 8] (by kernel_rfl) (by kernel_rfl) (Blk.drew HH.out) ?_
  simp only [List.filterMap_cons, List.filterMap_nil, List.getElem?_toArray, List.getElem?_cons_zero, List.getElem?_cons_succ]
  show wpQuiet _ _ _ _ [_, _, _, _, _, _, _, _, _] _
  iterate 4 (go_big_quiet_step ((intros; rfl)))
  refine q_cell 35 _ _ (.int .u64 (gOf B T D)) rfl rfl rfl (fun w h => by simp [go_sem, h]) (fun w h => Blk.cell h 0) ?_
  simp only [Act.put, List.setIfInBounds_toArray, List.set_cons_zero, List.set_cons_succ]
  iterate 4 (go_big_quiet_step ((intros; rfl)))
  refine wpQuiet_nil ?_
  refine headF_one (i := 9) (by kernel_rfl) (by omega) ?_
  refine wpOp_at rfl rfl (wp_call_at rfl #[.pointer (some ⟨b, 0, none⟩)] (by kernel_rfl) Try.call42 ((rest_any b B S T D _ (Blk.drew HH.out) HF.out).mono ?_))
  rintro e w1 ⟨rfl, m, hw1⟩
  have M1 : Hid (MetAt w1 b B S T D) := Lib.hid (hw1 ▸ Blk.drewN (Blk.drew HH.out) m)
  have G1 : Hid (w.grownBy w1 (some b)) := Lib.hid (hw1 ▸ only_drewN (only_drew (only_refl _ _)) m)
  clear hw1
  refine ⟨_, rfl, M1.out, ?_⟩
  simp only [Act.put, List.getElem_toArray, List.getElem_cons_zero, List.getElem_cons_succ, List.setIfInBounds_toArray, List.set_cons_zero, List.set_cons_succ]
  refine headF_takes (fun w' => MetAt w' b B S T D) (m := 3) (f := 0) [10, 11, 12] (fun _ h => h) (by kernel_rfl) M1.out ?_
  simp only [List.filterMap_cons, List.filterMap_nil, List.getElem?_toArray, List.getElem?_cons_zero, List.getElem?_cons_succ]
  show wpQuiet _ _ _ _ [_, _, _] _
  iterate 3 (go_big_quiet_step ((intros; rfl)))
  refine wpQuiet_nil ?_
  show Region.seqB _ _ _ _ _ = true ∧ _
  refine ⟨by kernel_rfl, ?_⟩
  rw [HP.out]
  simp only [Act.put, List.getElem_toArray, List.getElem_cons_zero, List.getElem_cons_succ, List.setIfInBounds_toArray, List.set_cons_zero, List.set_cons_succ, List.drop_succ_cons, List.drop_zero]
  have g1 : w.grownBy (w1.setCell ⟨b, 0, none⟩ (.int .u64 (gOf q T D))) (some b) := only_setCell G1.out (.inl rfl) _
  have g2 : w.grownBy ((w1.setCell ⟨b, 0, none⟩ (.int .u64 (gOf q T D))).setCell ⟨b, 3, none⟩ (.int .u64 T)) (some b) := only_setCell g1 (.inl rfl) _
  have H2 : Hid (MetAt ((w1.setCell ⟨b, 0, none⟩ (.int .u64 (gOf q T D))).setCell ⟨b, 3, none⟩ (.int .u64 T)) b q 0 T D ∧ w.grownBy ((w1.setCell ⟨b, 0, none⟩ (.int .u64 (gOf q T D))).setCell ⟨b, 3, none⟩ (.int .u64 T)) (some b)) :=
    Lib.hid ⟨by unfold MetAt; rw [hb]; exact Blk.set_ (Blk.set_ M1.out 0 _) 3 _, g2⟩
  have c0 : w1.cell? ⟨b, 0, none⟩ = some (.int .u64 (gOf B T D)) := Blk.cell M1.out 0
  have c3 : w1.cell? ⟨b, 3, none⟩ = some (.int .u64 (bOf T S)) := Blk.cell M1.out 3
  have c1 : w1.cell? ⟨b, 1, none⟩ = some (.int .u64 T) := Blk.cell M1.out 1
  have z0 : w1.frozen? ⟨b, 0, none⟩ = false := Blk.frozen M1.out 0
  have z3 : w1.frozen? ⟨b, 3, none⟩ = false := Blk.frozen M1.out 3
  clear hb g1 g2
  go_wp2
  refine NoPanic.normal ?_
  go_wp2_with fail
  refine (hlast.out _ H2.out.1).mono ?_
  rintro e w2 ⟨rfl, m2, rfl⟩
  go_wp2_with fail
  go_ret
  exact ⟨rfl, Blk.drewN H2.out.1 _, only_drewN H2.out.2 _⟩
end Go.Proofs.Ytkeclanbebiogaa
