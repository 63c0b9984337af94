/- The twenty entries: one long region, an array of sixty cells. -/
import Derived.Test.YtlnpppifdobcfaaHolds
import Derived.Test.YtlnpppifdobcfaaLong
import Derived.Laws.CopyOwn
namespace Go.Proofs.Ytlnpppifdobcfaa
open Go.RowKit

/-- The array that 'entries' makes: three cells each, the first or the second leading to the field. -/
def ents (bp bc : Nat) : Array Value := #[.pointer (some ⟨bc, 0, none⟩), .pointer none, .func (.func 26) #[] #[.pointer (some ⟨bp, 0, none⟩)], .pointer (some ⟨bc, 1, none⟩), .pointer none, .func (.func 27) #[] #[.pointer (some ⟨bp, 0, none⟩)], .pointer none, .pointer (some ⟨bc, 2, none⟩), .func (.func 28) #[] #[.pointer (some ⟨bp, 0, none⟩)], .pointer none, .pointer (some ⟨bc, 3, none⟩), .func (.func 29) #[] #[.pointer (some ⟨bp, 0, none⟩)], .pointer none, .pointer (some ⟨bc, 4, none⟩), .func (.func 30) #[] #[.pointer (some ⟨bp, 0, none⟩)], .pointer none, .pointer (some ⟨bc, 5, none⟩), .func (.func 32) #[] #[.pointer (some ⟨bp, 0, none⟩)], .pointer none, .pointer (some ⟨bc, 6, none⟩), .func (.func 33) #[] #[.pointer (some ⟨bp, 0, none⟩)], .pointer none, .pointer (some ⟨bc, 7, none⟩), .func (.func 34) #[] #[.pointer (some ⟨bp, 0, none⟩)], .pointer none, .pointer (some ⟨bc, 8, none⟩), .func (.func 35) #[] #[.pointer (some ⟨bp, 0, none⟩)], .pointer none, .pointer (some ⟨bc, 9, none⟩), .func (.func 36) #[] #[.pointer (some ⟨bp, 0, none⟩)], .pointer (some ⟨bc, 10, none⟩), .pointer none, .func (.func 37) #[] #[.pointer (some ⟨bp, 0, none⟩)], .pointer (some ⟨bc, 11, none⟩), .pointer none, .func (.func 38) #[] #[.pointer (some ⟨bp, 0, none⟩)], .pointer (some ⟨bc, 12, none⟩), .pointer none, .func (.func 39) #[] #[.pointer (some ⟨bp, 0, none⟩)], .pointer (some ⟨bc, 13, none⟩), .pointer none, .func (.func 40) #[] #[.pointer (some ⟨bp, 0, none⟩)], .pointer (some ⟨bc, 14, none⟩), .pointer none, .func (.func 41) #[] #[.pointer (some ⟨bp, 0, none⟩)], .pointer (some ⟨bc, 15, none⟩), .pointer none, .func (.func 42) #[] #[.pointer (some ⟨bp, 0, none⟩)], .pointer (some ⟨bc, 16, none⟩), .pointer none, .func (.func 43) #[] #[.pointer (some ⟨bp, 0, none⟩)], .pointer (some ⟨bc, 17, none⟩), .pointer none, .func (.func 44) #[] #[.pointer (some ⟨bp, 0, none⟩)], .pointer none, .pointer (some ⟨bc, 18, none⟩), .func (.func 45) #[] #[.pointer (some ⟨bp, 0, none⟩)], .pointer none, .pointer (some ⟨bc, 19, none⟩), .func (.func 46) #[] #[.pointer (some ⟨bp, 0, none⟩)]]

theorem ents_one (bp bc : Nat) : (ents bp bc).all (·.oneCell') = true := by kernel_rfl
theorem info42 : (Try.prog.info? 42).map (·.size) = some 60 := by kernel_rfl
set_option maxRecDepth 100000 in
set_option maxHeartbeats 4000000 in
theorem entries_any (bc : Nat) (w : World) :
    Calls Try.prog 23 #[.pointer (some ⟨bc, 0, none⟩)] w fun e w' => e = .returned (.agg (ents w.heap.size bc)) ∧ Blk w' w.heap.size 44 #[.pointer (some ⟨bc, 0, none⟩)] ∧ Below w.heap.size w w' := by
  go_enter Try.func23, Try.ntmps23
  go_wp2
  refine wp_region_long 101 3 (by kernel_rfl) rfl (by kernel_rfl) rfl ?_
  intro ops W hW
  have hp : W.cell? ⟨w.heap.size, 0, none⟩ = some (.pointer (some ⟨bc, 0, none⟩)) := by
    rw [hW]; exact ((Blk.new w 44 #[.pointer (some ⟨bc, 0, none⟩)]).alloc _).cell 0
  have HB1 := Lib.hid (show Blk W w.heap.size 44 #[.pointer (some ⟨bc, 0, none⟩)] by rw [hW]; exact (Blk.new w 44 #[.pointer (some ⟨bc, 0, none⟩)]).alloc _)
  have HB2 := Lib.hid (show ∃ old : Array Value, old.size = 60 ∧ Blk W (w.heap.size + 1) 42 old by
    rw [hW]
    exact ⟨_, rfl, heap_alloc2_new w _ _⟩)
  have HB := Lib.hid (show Below w.heap.size w W by rw [hW]; exact (((Below.refl _ _).alloc (Nat.le_refl _) _).alloc (by simp) _).drew)
  clear hW
  iterate 101 still_step
  refine wpStill_nil ?_
  obtain ⟨old, hs, hb2⟩ := HB2.out
  refine wpList_store_row rfl _ _ _ rfl (w.heap.size + 1) (ents w.heap.size bc) rfl rfl 42 old hb2 info42 (by rw [hs]; rfl) (ents_one _ _) ?_
  have HS := Lib.hid hs
  have H2 := Lib.hid hb2
  clear hs hb2
  go_wp2
  refine bodyPost_ret (v := .agg (ents w.heap.size bc)) (results_cell_row (fn := Try.f23) rfl _ _ (w.heap.size + 1) 42 (ents w.heap.size bc) (0, 0) _ rfl (setRow_heap W _ old _ 42 (0, 0) H2.out) Try.underlying42 rfl info42) rfl ⟨rfl, ?_, below_setRow HB.out (by omega) _⟩
  exact (setRow_other W _ _ _ (by omega)).trans HB1.out
end Go.Proofs.Ytlnpppifdobcfaa
