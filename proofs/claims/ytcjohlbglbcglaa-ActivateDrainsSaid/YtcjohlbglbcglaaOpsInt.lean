/- Rings of int: New, Len, Free, slot. -/
import Derived.Test.YtcjohlbglbcglaaRing
namespace Go.Proofs.Ytcjohlbglbcglaa
open Go.RowKit
set_option linter.unusedVariables false
set_option maxRecDepth 100000

theorem ri_new_none (s : Int) (w : World) (h : s < 1 ∨ 1048576 < s) :
    Calls Try.prog 19 #[.int .i64 s] w fun e w' => e = .returned (.pointer none) ∧ w = w' := by
  rcases h with h | h
  · go_enter Try.func19, Try.ntmps19
    go_wp2
    go_ret
    exact ⟨rfl, rfl⟩
  · have h0 : ¬ s < 1 := by omega
    go_enter Try.func19, Try.ntmps19
    go_wp2
    go_ret
    exact ⟨rfl, rfl⟩
theorem ri_new_some (s : Nat) (w : World) (h : 1 ≤ s) (h2 : s ≤ 1048576) :
    Calls Try.prog 19 #[.int .i64 s] w fun e w' => e = .returned (.pointer (some ⟨w.heap.size, 0, none⟩)) ∧ w.alloc (.cells #[.int .i64 s, .slice none 0 0, .int .i64 0, .int .i64 0] 51) = w' := by
  have h0 : ¬ (s : Int) < 1 := by omega
  have h3 : ¬ (1048576 : Int) < (s : Int) := by omega
  go_enter Try.func19, Try.ntmps19
  go_wp2
  go_ret
  exact ⟨rfl, rfl⟩

theorem ri_len_nil (w : World) : Calls Try.prog 15 #[.pointer none] w fun e w' => e = .returned (.int .i64 0) ∧ w = w' := by
  go_enter Try.func15, Try.ntmps15
  go_wp2
  go_ret
  exact ⟨rfl, rfl⟩
theorem ri_len_any (b : Nat) (c : Int) (w : World) (h : w.cell? ⟨b, 3, none⟩ = some (.int .i64 c)) :
    Calls Try.prog 15 #[.pointer (some ⟨b, 0, none⟩)] w fun e w' => e = .returned (.int .i64 c) ∧ w = w' := by
  go_enter Try.func15, Try.ntmps15
  go_wp2
  go_ret
  exact ⟨rfl, rfl⟩
theorem ri_free_nil (w : World) : Calls Try.prog 29 #[.pointer none] w fun e w' => e = .returned (.int .i64 0) ∧ w = w' := by
  go_enter Try.func29, Try.ntmps29
  go_wp2
  go_ret
  exact ⟨rfl, rfl⟩
theorem ri_free_any (b : Nat) (s c : Nat) (w : World) (h0 : w.cell? ⟨b, 0, none⟩ = some (.int .i64 s)) (h3 : w.cell? ⟨b, 3, none⟩ = some (.int .i64 c)) (hs : s ≤ 1048576) (hc : c ≤ s) :
    Calls Try.prog 29 #[.pointer (some ⟨b, 0, none⟩)] w fun e w' => e = .returned (.int .i64 ((s - c : Nat) : Int)) ∧ ∃ m, w' = w.drewN m := by
  go_enter Try.func29, Try.ntmps29
  go_wp2
  go_quiet (fail)
  go_wp2
  go_ret
  exact ⟨ret_int (by omega), _, rfl⟩
theorem ri_slot_any (b n f i : Nat) (a : Option Addr) (cap : Nat) (w : World) (h1 : w.cell? ⟨b, 1, none⟩ = some (.slice a n cap)) (h2 : w.cell? ⟨b, 2, none⟩ = some (.int .i64 f)) (hn : 0 < n) (hf : f ≤ 1048576) (hi : i ≤ 1048576) :
    Calls Try.prog 31 #[.pointer (some ⟨b, 0, none⟩), .int .i64 i] w fun e w' => e = .returned (.int .i64 (((f + i) % n : Nat) : Int)) ∧ ∃ m, w' = w.drewN m := by
  have hz : ((n : Int) == 0) = false := by simp; omega
  go_enter Try.func31, Try.ntmps31
  go_wp2
  go_quiet (fail)
  go_wp2
  go_ret
  exact ⟨ret_int (by simp), _, rfl⟩
end Go.Proofs.Ytcjohlbglbcglaa
