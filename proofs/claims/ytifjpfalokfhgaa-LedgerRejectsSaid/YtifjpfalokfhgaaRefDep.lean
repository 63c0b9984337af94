/- The reference's Deposit. -/
import Derived.Test.YtifjpfalokfhgaaRef
namespace Go.Proofs.Ytifjpfalokfhgaa
open Go.RowKit
set_option linter.unusedVariables false
set_option linter.unusedSimpArgs false
set_option linter.unusedSectionVars false

section
variable (d : Nat) (D P B C x : Int) (w : World) (h : RefAt w d D P B C) (hF : Fits D P B C) (x0 : 0 ≤ x) (x1 : x ≤ 18446744073709551615)
include h hF x0 x1
theorem refdep_supply (hx : x > C - (D - P - B)) : Calls Try.prog 21 #[.pointer (some ⟨d, 0, none⟩), .int .u64 x] w fun e w' => e = .returned (.int .i64 4) ∧ Below w.heap.size w w' := by
  have H := Lib.hid (refsupply_any d D P B C w h hF)
  have HF := Lib.hid hF
  have HW := Lib.hid h
  have s0 : 0 ≤ D - P - B := by unfold Fits at hF; omega
  have s1 : D - P - B ≤ 18446744073709551615 := by unfold Fits at hF; omega
  have hC : C ≤ 18446744073709551615 := hF.2.2.2.2.2
  have hx' : C < D - P - B + x := by omega
  clear h hF hx
  by_cases hs : D - P - B + x ≤ 18446744073709551615
  · go_enter Try.func21, Try.ntmps21
    go_wp2_with fail
    refine H.out.mono ?_
    rintro e w1 ⟨rfl, m, hw1⟩
    generalize D - P - B = S at *
    have H1 : Hid (RefAt w1 d D P B C) := Lib.hid (hw1 ▸ Blk.drewN HW.out m)
    have B1 : Below w.heap.size w w1 := hw1 ▸ below_drewN (Below.refl _ _) m
    clear hw1
    go_wp2_with fail
    refine (refadd2_yes w1.heap.size S x _ (Blk.new w1 _ _) s0 x0 hs).mono ?_
    rintro e w2 ⟨rfl, m2, hw2⟩
    have H2 : RefAt w2 d D P B C := hw2 ▸ Blk.drewN (Blk.alloc H1.out _) m2
    have c0 := H2.cells.1
    have B2 : Below w.heap.size w w2 := hw2 ▸ below_drewN (B1.alloc B1.size _) m2
    clear hw2 H2 H1 B1
    go_wp2_with fail
    go_ret
    exact ⟨rfl, B2⟩
  · go_enter Try.func21, Try.ntmps21
    go_wp2_with fail
    refine H.out.mono ?_
    rintro e w1 ⟨rfl, m, hw1⟩
    generalize D - P - B = S at *
    have H1 : Hid (RefAt w1 d D P B C) := Lib.hid (hw1 ▸ Blk.drewN HW.out m)
    have B1 : Below w.heap.size w w1 := hw1 ▸ below_drewN (Below.refl _ _) m
    clear hw1
    go_wp2_with fail
    refine (refadd2_not w1.heap.size S x _ (Blk.new w1 _ _) s0 s1 x0 x1 (by omega)).mono ?_
    rintro e w2 ⟨rfl, m2, hw2⟩
    have B2 : Below w.heap.size w w2 := hw2 ▸ below_drewN (B1.alloc B1.size _) m2
    clear hw2 H1 B1
    go_wp2_with fail
    go_ret
    exact ⟨rfl, B2⟩
theorem refdep_over (hx : x ≤ C - (D - P - B)) (ho : 18446744073709551615 < D + x) : Calls Try.prog 21 #[.pointer (some ⟨d, 0, none⟩), .int .u64 x] w fun e w' => e = .returned (.int .i64 10) ∧ Below w.heap.size w w' := by
  have H := Lib.hid (refsupply_any d D P B C w h hF)
  have HW := Lib.hid h
  have s0 : 0 ≤ D - P - B := by unfold Fits at hF; omega
  have hC : C ≤ 18446744073709551615 := hF.2.2.2.2.2
  have hD : D ≤ 18446744073709551615 := hF.2.2.2.1
  have hD0 : 0 ≤ D := by unfold Fits at hF; omega
  have hx' : D - P - B + x ≤ C := by omega
  clear h hF hx
  go_enter Try.func21, Try.ntmps21
  go_wp2_with fail
  refine H.out.mono ?_
  rintro e w1 ⟨rfl, m, hw1⟩
  generalize D - P - B = S at *
  have H1 : Hid (RefAt w1 d D P B C) := Lib.hid (hw1 ▸ Blk.drewN HW.out m)
  have B1 : Below w.heap.size w w1 := hw1 ▸ below_drewN (Below.refl _ _) m
  clear hw1
  go_wp2_with fail
  refine (refadd2_yes w1.heap.size S x _ (Blk.new w1 _ _) s0 x0 (by omega)).mono ?_
  rintro e w2 ⟨rfl, m2, hw2⟩
  have H2 : RefAt w2 d D P B C := hw2 ▸ Blk.drewN (Blk.alloc H1.out _) m2
  obtain ⟨c0, c1, _, _⟩ := H2.cells
  have B2 : Below w.heap.size w w2 := hw2 ▸ below_drewN (B1.alloc B1.size _) m2
  clear hw2 H2 H1 B1
  go_wp2_with fail
  refine (refadd2_not w2.heap.size D x _ (Blk.new w2 _ _) hD0 hD x0 x1 (by omega)).mono ?_
  rintro e w3 ⟨rfl, m3, hw3⟩
  have B3 : Below w.heap.size w w3 := hw3 ▸ below_drewN (B2.alloc B2.size _) m3
  clear hw3 B2
  go_wp2_with fail
  go_ret
  exact ⟨rfl, B3⟩
theorem refdep_ok (hx : x ≤ C - (D - P - B)) (ho : D + x ≤ 18446744073709551615) : Calls Try.prog 21 #[.pointer (some ⟨d, 0, none⟩), .int .u64 x] w fun e w' => e = .returned (.int .i64 0) ∧ RefAt w' d (D + x) P B C ∧ w.grownBy w' (some d) := by
  have H := Lib.hid (refsupply_any d D P B C w h hF)
  have HW := Lib.hid h
  have s0 : 0 ≤ D - P - B := by unfold Fits at hF; omega
  have hC : C ≤ 18446744073709551615 := hF.2.2.2.2.2
  have hD0 : 0 ≤ D := by unfold Fits at hF; omega
  have hx' : D - P - B + x ≤ C := by omega
  clear h hF hx
  go_enter Try.func21, Try.ntmps21
  go_wp2_with fail
  refine H.out.mono ?_
  rintro e w1 ⟨rfl, m, hw1⟩
  generalize D - P - B = S at *
  have H1 : Hid (RefAt w1 d D P B C) := Lib.hid (hw1 ▸ Blk.drewN HW.out m)
  have B1 : Below w.heap.size w w1 := hw1 ▸ below_drewN (Below.refl _ _) m
  clear hw1
  go_wp2_with fail
  refine (refadd2_yes w1.heap.size S x _ (Blk.new w1 _ _) s0 x0 (by omega)).mono ?_
  rintro e w2 ⟨rfl, m2, hw2⟩
  have H2 : RefAt w2 d D P B C := hw2 ▸ Blk.drewN (Blk.alloc H1.out _) m2
  obtain ⟨c0, c1, _, _⟩ := H2.cells
  have HH2 := Lib.hid H2
  have B2 : Below w.heap.size w w2 := hw2 ▸ below_drewN (B1.alloc B1.size _) m2
  clear hw2 H2 H1 B1
  go_wp2_with fail
  refine (refadd2_yes w2.heap.size D x _ (Blk.new w2 _ _) hD0 x0 ho).mono ?_
  rintro e w3 ⟨rfl, m3, hw3⟩
  have B3 : Below w.heap.size w w3 := hw3 ▸ below_drewN (B2.alloc B2.size _) m3
  have H3 : RefAt w3 d D P B C := hw3 ▸ Blk.drewN (Blk.alloc HH2.out _) m3
  have d1 := H3.cells.2.1
  have z1 := Blk.frozen H3 1
  have HE : Hid (RefAt (w3.setCell ⟨d, 1, none⟩ (.int .u64 (D + x))) d (D + x) P B C ∧ w.grownBy (w3.setCell ⟨d, 1, none⟩ (.int .u64 (D + x))) (some d)) := Lib.hid ⟨Blk.set_ H3 1 _, only_setCell (only_of_below B3 _) (.inl rfl) _⟩
  clear hw3 B2 H3
  go_wp2_with fail
  go_ret
  exact ⟨rfl, HE.out⟩
end
end Go.Proofs.Ytifjpfalokfhgaa
