/- The reference's condition of any field. -/
import Derived.Test.YtjleklhajmhekaaRight0
import Derived.Test.YtjleklhajmhekaaRight1
import Derived.Test.YtjleklhajmhekaaRight2
import Derived.Test.YtjleklhajmhekaaRight3
namespace Go.Proofs.Ytjleklhajmhekaa
open Go.RowKit
theorem right_any (c : Nat → Int) (k : Nat) (hk : k < 20) (w : World) :
    Calls Try.prog 23 #[.agg (cellsOf c), .int .i64 ((k : Int) + 1)] w fun e w' => e = .returned (.bool (rightB c k)) ∧ Below w.heap.size w w' := by
  have : k = 0 ∨ k = 1 ∨ k = 2 ∨ k = 3 ∨ k = 4 ∨ k = 5 ∨ k = 6 ∨ k = 7 ∨ k = 8 ∨ k = 9 ∨ k = 10 ∨ k = 11 ∨ k = 12 ∨ k = 13 ∨ k = 14 ∨ k = 15 ∨ k = 16 ∨ k = 17 ∨ k = 18 ∨ k = 19 := by omega
  rcases this with rfl | rfl | rfl | rfl | rfl | rfl | rfl | rfl | rfl | rfl | rfl | rfl | rfl | rfl | rfl | rfl | rfl | rfl | rfl | rfl
  · exact right0 c w
  · exact right1 c w
  · exact right2 c w
  · exact right3 c w
  · exact right4 c w
  · exact right5 c w
  · exact right6 c w
  · exact right7 c w
  · exact right8 c w
  · exact right9 c w
  · exact right10 c w
  · exact right11 c w
  · exact right12 c w
  · exact right13 c w
  · exact right14 c w
  · exact right15 c w
  · exact right16 c w
  · exact right17 c w
  · exact right18 c w
  · exact right19 c w
end Go.Proofs.Ytjleklhajmhekaa
