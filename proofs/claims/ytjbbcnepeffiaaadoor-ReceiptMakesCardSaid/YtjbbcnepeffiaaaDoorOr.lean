/- cmp.Or of a name and a word for none. -/
import Derived.Test.YtjbbcnepeffiaaaDoorAdd
namespace Go.Proofs.YtjbbcnepeffiaaaDoor
open Go Go.RowKit
set_option linter.unusedVariables false
set_option linter.unusedSimpArgs false
set_option maxRecDepth 100000

theorem bs_isE {l : List UInt8} : ((bs l).toList != []) = !l.isEmpty := by
  rw [ByteArray.toList_eq, bs_list]
  cases l <;> rfl
theorem or_first (pb c : Nat) (l m : List UInt8) (w : World) (hp : Blk w pb 9 (strs [l, m])) (hl : l ≠ []) :
    Calls Tryd.prog 27 #[.slice (some ⟨pb, 0, none⟩) 2 c] w fun e w' => e = .returned (.string (bs l)) ∧ w = w' := by
  have c0 : w.cell? ⟨pb, 0, none⟩ = some (.string (bs l)) := by rw [hp.cell 0]; rfl
  have e0 : (bs l).toList = [] ↔ False := by rw [ByteArray.toList_eq, bs_list]; simpa using hl
  have e1 : (bs l).toList.isEmpty = false := by rw [ByteArray.toList_eq, bs_list]; simpa using hl
  clear hp
  generalize bs l = s at *
  go_enter Tryd.func27, Tryd.ntmps27
  go_wp2
  refine wp_loop_rounds 1 ?_
  rw [rounds_succ]
  go_wp2
  go_ret
  exact ⟨rfl, rfl⟩
theorem or_second (pb c : Nat) (m : List UInt8) (w : World) (hp : Blk w pb 9 (strs [[], m])) (hm : m ≠ []) :
    Calls Tryd.prog 27 #[.slice (some ⟨pb, 0, none⟩) 2 c] w fun e w' => e = .returned (.string (bs m)) ∧ w = w' := by
  have c0 : w.cell? ⟨pb, 0, none⟩ = some (.string ⟨#[]⟩) := by rw [hp.cell 0]; rfl
  have c1 : w.cell? ⟨pb, 1, none⟩ = some (.string (bs m)) := by rw [hp.cell 1]; rfl
  have e0 : (bs m).toList = [] ↔ False := by rw [ByteArray.toList_eq, bs_list]; simpa using hm
  have e1 : (bs m).toList.isEmpty = false := by rw [ByteArray.toList_eq, bs_list]; simpa using hm
  clear hp
  generalize bs m = s at *
  go_enter Tryd.func27, Tryd.ntmps27
  go_wp2
  refine wp_loop_rounds 2 ?_
  rw [rounds_succ]
  go_wp2
  rw [rounds_succ]
  go_wp2
  go_ret
  exact ⟨rfl, rfl⟩
end Go.Proofs.YtjbbcnepeffiaaaDoor
