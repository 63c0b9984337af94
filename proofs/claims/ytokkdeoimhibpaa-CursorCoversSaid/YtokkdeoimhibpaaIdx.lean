/- The closure that moves the cursor. -/
import Derived.Test.YtokkdeoimhibpaaCur
namespace Go.Proofs.Ytokkdeoimhibpaa
open Go Go.RowKit
set_option linter.unusedVariables false
set_option linter.unusedSimpArgs false

theorem tmod_nat (s n : Nat) : ((s : Int)).tmod (n : Int) = ((s % n : Nat) : Int) := by
  rw [Int.tmod_eq_emod_of_nonneg (by omega), Int.natCast_emod]
set_option maxHeartbeats 400000 in
theorem next_any (bp bn c s n : Nat) (w : World) (h1 : Blk w bp 23 #[.pointer (some ⟨c, 0, none⟩)]) (h2 : Blk w bn 3 #[.int .i64 (n : Int)]) (h3 : Cur w c s) (hs : s ≤ 100) (hn : 0 < n) (hn' : n ≤ 100) :
    Calls Try.prog 22 #[.pointer (some ⟨bp, 0, none⟩), .pointer (some ⟨bn, 0, none⟩)] w fun e w' => e = .returned (.int .i64 ((s % n : Nat) : Int)) ∧ Cur w' c ((s % n + 1) % n) ∧ Kept (fun i => i = c) w w' := by
  have x1 := h1.cell 0
  have x2 := h2.cell 0
  have x3 := h3.cell 0
  have f3 := h3.frozen 0
  have H3 := Lib.hid h3
  have e1 := tmod_nat s n
  have e2 := tmod_nat (s % n + 1) n
  have hm := Nat.mod_lt s hn
  generalize hr : s % n = r at *
  rw [Int.natCast_add] at e2
  have e3 : IntKind.i64.wrap ((r : Int) + 1) = (r : Int) + 1 := IntWalk.i64_in _ (by omega)
  have hne : ¬ (n : Int) = 0 := by omega
  clear h1 h2 h3 hr
  go_enter Try.func22, Try.ntmps22
  go_wp2
  go_quiet (fail)
  go_wp2
  go_region
  all_goals go_wp2
  all_goals go_ret
  all_goals refine ⟨rfl, ?_, ?_⟩
  · have h := (H3.out.drewN (nq + 1)).set_ 0 (.int .i64 (((r : Int) + 1) % n))
    have e : ((r : Int) + 1) % n = (((r + 1) % n : Nat) : Int) := by rw [Int.natCast_emod]; rfl
    rw [e] at h ⊢
    exact h
  · exact Kept.setCell (S := fun i => i = c) (p := ⟨c, 0, none⟩) ((Kept.refl (fun i => i = c) w).drewN (nq + 1)) (.inl rfl) _
theorem indices_any (c n : Nat) (w : World) :
    Calls Try.prog 20 #[.pointer (some ⟨c, 0, none⟩), .int .i64 n] w fun e w' => e = .returned (.func (.func 22) #[] #[.pointer (some ⟨w.heap.size, 0, none⟩), .pointer (some ⟨w.heap.size + 1, 0, none⟩)]) ∧ (w.alloc (.cells #[.pointer (some ⟨c, 0, none⟩)] 23)).alloc (.cells #[.int .i64 n] 3) = w' := by
  have hmf : ∀ (fn : Fn) (first cap : Array Value) (w : World), (Instr.makeFunc fn first cap).run Try.prog w = .ok (.func fn first cap) w := fun _ _ _ _ => rfl
  go_enter Try.func20, Try.ntmps20
  go_wp2
  go_ret
  exact ⟨rfl, rfl⟩
end Go.Proofs.Ytokkdeoimhibpaa
