/- A law's boxes: a pair and a configuration. -/
import Derived.Test.YtnaheindlkehhaaTwo
namespace Go.Proofs.Ytnaheindlkehhaa
open Go Go.RowKit Go.Deep
set_option linter.unusedVariables false
set_option maxRecDepth 100000

def PBox (w W : World) (p : Int × Int) (c : Nat → Int) : Prop :=
  Blk W w.heap.size 37 (cellsP p) ∧ Blk W (w.heap.size + 1) 26 (cellsOf c) ∧ Below w.heap.size w W
theorem PBox.new (w : World) (p : Int × Int) (c : Nat → Int) : PBox w ((w.alloc (.cells (cellsP p) 37)).alloc (.cells (cellsOf c) 26)) p c :=
  ⟨Blk.alloc (Blk.new w _ _) _, tri_two w _ _ _, ((Below.refl _ _).alloc (Nat.le_refl _) _).alloc (by simp) _⟩
theorem PBox.next {w W W' : World} {p : Int × Int} {c : Nat → Int} (h : PBox w W p c) (hb : Below W.heap.size W W') : PBox w W' p c :=
  ⟨h.1.below hb h.1.lt, h.2.1.below hb h.2.1.lt, h.2.2.trans (hb.mono h.2.2.size)⟩
end Go.Proofs.Ytnaheindlkehhaa
