/- strings.Cut at one byte; the reference's Split. -/
import Derived.Test.YtniehmlklbggdaaDoorGw
import Derived.Test.YtniehmlklbggdaaDoorAppend
import Derived.Deep.CutRange
import Derived.Laws.Strings3
import Derived.Lib.Strings
namespace Go.Proofs.YtniehmlklbggdaaDoor
open Go Go.RowKit
set_option linter.unusedVariables false
set_option linter.unusedSimpArgs false
set_option maxRecDepth 100000

theorem bs_take (s : ByteArray) (i : Nat) : s.extract 0 i = bs (s.data.toList.take i) := by
  rw [Lib.extract_eq]
  rfl
theorem bs_drop (s : ByteArray) (i : Nat) : s.extract i s.size = bs (s.data.toList.drop i) := by
  rw [Lib.extract_eq, List.take_of_length_le (by simp)]
  rfl
theorem bs_self (s : ByteArray) : bs s.data.toList = s := rfl
set_option maxHeartbeats 800000 in
theorem slcut_any (s : ByteArray) (c : UInt8) (w : World) (hs : s.size ≤ 9223372036854775806) :
    Calls Tryd.prog 60 #[.string s, .string ⟨#[c]⟩] w fun e w' => ∃ b, e = .returned (.tuple #[.string (bs (cutP c s.data.toList).1), .string (bs (cutP c s.data.toList).2), .bool b]) ∧ Below w.heap.size w w' := by
  have hix := fun w => Tryd.stringslite_Index_one s c w
  rcases cutP_index (c := c) (l := s.data.toList) with ⟨h, e⟩ | ⟨i, h, hi, e⟩
  · rw [h] at hix
    rw [e]
    have HX := Lib.hid hix
    clear hix h e
    go_enter Tryd.func60, Tryd.ntmps60
    go_wp2_with (go_at_call 64; refine (HX.out _).mono ?_; rintro e w' ⟨rfl, rfl⟩)
    go_ret3
    exact ⟨false, rfl, Below.refl _ _⟩
  · rw [h] at hix
    rw [e, ← bs_take, ← bs_drop]
    have HX := Lib.hid hix
    have hi : i < s.size := by simpa using hi
    have c1 : (0 : Int) ≤ (i : Int) := by omega
    have c2 : (i : Int) ≤ (s.size : Int) := by omega
    have c3 : (0 : Int) ≤ (i : Int) + 1 := by omega
    have c4 : (i : Int) + 1 ≤ (s.size : Int) := by omega
    have c5 : IntKind.i64.wrap ((i : Int) + 1) = (i : Int) + 1 := IntWalk.i64_in _ (by omega)
    have c6 : ((i : Int) + 1).toNat = i + 1 := by omega
    clear hix h e hi
    go_enter Tryd.func60, Tryd.ntmps60
    go_wp2_with (go_at_call 64; refine (HX.out _).mono ?_; rintro e w' ⟨rfl, rfl⟩)
    go_quiet (fail)
    go_wp2
    go_ret3
    exact ⟨true, rfl, below_drewN (Below.refl _ _) _⟩
theorem cut_any (s : ByteArray) (c : UInt8) (w : World) (hs : s.size ≤ 9223372036854775806) :
    Calls Tryd.prog 35 #[.string s, .string ⟨#[c]⟩] w fun e w' => ∃ b, e = .returned (.tuple #[.string (bs (cutP c s.data.toList).1), .string (bs (cutP c s.data.toList).2), .bool b]) ∧ Below w.heap.size w w' := by
  have HX := Lib.hid (fun w => slcut_any s c w hs)
  generalize bs (cutP c s.data.toList).1 = x at *
  generalize bs (cutP c s.data.toList).2 = y at *
  go_enter Tryd.func35, Tryd.ntmps35
  go_wp2_with (go_at_call 60; refine (HX.out _).mono ?_; rintro e w' ⟨b, rfl, hb⟩; have HB := Lib.hid hb; clear hb)
  go_ret3
  exact ⟨b, rfl, HB.out⟩
end Go.Proofs.YtniehmlklbggdaaDoor
