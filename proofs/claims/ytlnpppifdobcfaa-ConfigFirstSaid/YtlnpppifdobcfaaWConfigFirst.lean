/- The walk of ConfigFirst. -/
import Derived.Test.YtlnpppifdobcfaaSetI
import Derived.Test.YtlnpppifdobcfaaSetN
import Derived.Deep.DeepCutAuto
import Derived.Test.YtlnpppifdobcfaaFirstBad
import Derived.Test.YtlnpppifdobcfaaFirstLow
import Derived.Test.YtlnpppifdobcfaaFirstHigh
import Derived.Test.YtlnpppifdobcfaaFirstLarge
import Derived.Test.YtlnpppifdobcfaaFirstNumber
import Derived.Test.YtlnpppifdobcfaaFirstAmount
namespace Go.Proofs.Ytlnpppifdobcfaa
open Go.RowKit
set_option linter.unusedVariables false

theorem walk_ConfigFirst (a0 : Nat → Int) (a1 : Int) (a2 : Int) (w : World) (w0 : Fits a0) (w1 : (Lit.int .i64 a1).wf = true) (w2 : (Lit.int .u64 a2).wf = true) : Calls Try.prog 4 #[.agg (cellsOf a0), .int .i64 a1, .int .u64 a2] w fun e w' => e = .returned (.bool true) ∧ Below w.heap.size w w' := by
  obtain ⟨h0, h1⟩ := bounds_u64 w2
  by_cases hz : chk a0 = 0
  · by_cases l : a1 < 1
    · exact first_low a0 a1 a2 w hz l
    · by_cases g : 20 < a1
      · exact first_high a0 a1 a2 w hz g
      · obtain ⟨k, rfl⟩ : ∃ k : Nat, a1 = (k : Int) + 1 := ⟨(a1 - 1).toNat, by omega⟩
        have hk : k < 20 := by omega
        cases hi : isI k
        · exact first_amount a0 k a2 w hz hk hi
        · by_cases hl : 2147483648 < a2
          · exact first_large a0 k a2 w hz hk hi hl
          · exact first_number a0 k a2 w hz hk hi h0 (by omega)
  · exact first_bad a0 a1 a2 w hz
end Go.Proofs.Ytlnpppifdobcfaa
