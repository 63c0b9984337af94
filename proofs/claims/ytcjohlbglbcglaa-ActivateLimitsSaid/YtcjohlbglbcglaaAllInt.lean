/- Rings of int: All. -/
import Derived.Test.YtcjohlbglbcglaaGrowInt
namespace Go.Proofs.Ytcjohlbglbcglaa
open Go.RowKit
set_option linter.unusedVariables false
set_option maxRecDepth 100000

theorem ri_all_nil (w : World) : Calls Try.prog 14 #[.pointer none] w fun e w' => e = .returned (.slice none 0 0) ∧ w = w' := by
  go_enter Try.func14, Try.ntmps14
  go_wp2
  go_ret
  exact ⟨rfl, rfl⟩
theorem ri_all_any (b size c : Nat) (go : Option Nat) (F : List Value) (w : World) (hi : RingAt 51 3 1 w b go size c F) :
    Calls Try.prog 14 #[.pointer (some ⟨b, 0, none⟩)] w fun e w' => e = .returned (.slice (some ⟨w.heap.size, 0, none⟩) c c) ∧ Blk w' w.heap.size 3 F.toArray ∧ Below w.heap.size w w' := by
  obtain ⟨c0, c3⟩ := hi.cells
  obtain ⟨hcs, hs1, hs⟩ := hi.size_le
  have hgo : ∀ i, go = some i → i < w.heap.size := fun i e => hi.lt i (.inr e.symm)
  have hFl := hi.1
  have HFl := Lib.hid hFl
  have HI := Lib.hid hi
  clear hi hFl
  have hT : (Try.prog.info? 3).map (fun i => (i.zero, i.size, i.bytes)) = some (some (.int .i64 0), 1, 8) := by kernel_rfl
  obtain ⟨i0, hi0, hz0, hz1, hz2⟩ := info_parts hT
  have hmk := fun W => run_make_rowN (P := Try.prog) 22 3 i0 _ Try.underlying22 hi0 hz0 .i64 .i64 c c (Nat.le_refl _) (by rw [hz2]; omega) (by omega) W
  rw [hz1] at hmk
  have hDl : (madeCells (Value.cells (.int .i64 0)) (c * 1)).toList.length = c * 1 := by rw [Array.length_toList, size_madeCells]
  have hDe : (madeCells (Value.cells (.int .i64 0)) (c * 1)) = ((madeCells (Value.cells (.int .i64 0)) (c * 1)).toList).toArray := by simp
  generalize madeCells (Value.cells (.int .i64 0)) (c * 1) = D0 at *
  generalize D0.toList = D at *
  subst hDe
  have HDl := Lib.hid hDl
  clear hT hi0 hz0 hz1 hz2 i0 hDl
  go_enter Try.func14, Try.ntmps14
  go_wp2_with fail
  refine (ri_copyTo_at b _ size c c c go D F _ (RingAt.kept (S := fun _ => False) HI.out ((Kept.refl _ w).alloc _) (fun _ _ h => h)) (Blk.new _ _ _) HDl.out (by omega) (by omega) (by omega) (fun e => by have := hgo _ e; simp at this)).mono ?_
  rintro e w1 ⟨rfl, hB1, hK1, hS1⟩
  have hB2 : Blk w1 w.heap.size 3 F.toArray := by
    have := hB1
    rw [List.drop_of_length_le (by have := HFl.out; have := HDl.out; omega), List.append_nil] at this
    exact this
  have hK2 : Kept (fun i => i = w.heap.size) w w1 := ((Kept.refl _ w).alloc _).trans hK1 (fun _ _ h => h)
  have HK2 := Lib.hid hK2
  have HB2 := Lib.hid hB2
  clear hB1 hK1 hS1 hK2 hB2
  go_wp2
  go_ret
  exact ⟨rfl, HB2.out, Kept.below (Below.refl _ _) HK2.out (fun i hi => by omega) (Nat.le_refl _)⟩
end Go.Proofs.Ytcjohlbglbcglaa
