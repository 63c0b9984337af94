/- The walk of MeterNil. -/
import Derived.Test.YtbebmdbhoombgaaLive
import Derived.OpenShut
namespace Go.Proofs.Ytbebmdbhoombgaa
open Go Go.RowKit Go.OpenShut
set_option linter.unusedVariables false
set_option linter.unusedSimpArgs false
theorem walk_MeterNil (a0 : Int) (w : World) (w0 : (Lit.int .u64 a0).wf = true) :
    Calls Try.prog 8 #[.int .u64 a0] w fun e w' => e = .returned (.bool true) ∧ Below w.heap.size w w' := by
  obtain ⟨b0, b1⟩ := bounds_u64 w0
  clear w0
  have heq : Hid (∀ w : World, (Op.equalIn 10000 35 (.agg #[.int .u64 0, .int .u64 0, .int .u64 0]) (.agg #[.int .u64 0, .int .u64 0, .int .u64 0])).run Try.prog w = .ok true w) := Lib.hid (fun w => by kernel_rfl)
  go_enter Try.func8, Try.ntmps8
  go_wp2_with fail
  refine (Own.new _).mono ?_
  rintro e w1 ⟨rfl, O1, S1, B1⟩
  go_wp2_with fail
  refine (Own.new _).mono ?_
  rintro e w2 ⟨rfl, P2, S2, B2⟩
  have O2 : Hid (Own w w2 w.heap.size 0 0 0 0) := Lib.hid (O1.out.below B2.out)
  have Q2 : Hid (Own w w2 w1.heap.size 0 0 0 0) := Lib.hid ⟨P2.out.1, by have := S1.out; omega, O2.out.2.2.1, P2.out.2.2.2⟩
  have HN : Hid (some w1.heap.size ≠ some w.heap.size) := Lib.hid (fun e => by have := S1.out; injection e; omega)
  clear O1 P2 S1 S2 B1 B2
  go_wp2_with fail
  refine (O2.out.grant (x := a0) (B' := a0) b0 (by omega) (by omega)).mono ?_
  rintro e w3 ⟨rfl, O3, g3⟩
  have Q3 : Hid (Own w w3 w1.heap.size 0 0 0 0) := Lib.hid (Q2.out.grown g3.out HN.out (Nat.le_refl _))
  clear O2 Q2 g3
  go_wp2_with fail
  refine (alive_any _).mono ?_
  rintro e w4 ⟨rfl, b4⟩
  have O4 : Hid (Own w w4 w.heap.size a0 0 0 0) := Lib.hid (O3.out.below b4)
  have Q4 : Hid (Own w w4 w1.heap.size 0 0 0 0) := Lib.hid (Q3.out.below b4)
  clear b4 O3 Q3
  go_wp2_with fail
  refine (grant_nil _ _).mono ?_
  rintro e w' ⟨rfl, rfl⟩
  go_wp2_with fail
  refine (take_nil _ _).mono ?_
  rintro e w' ⟨rfl, rfl⟩
  go_wp2_with fail
  refine (drop_nil _).mono ?_
  rintro e w' ⟨rfl, rfl⟩
  go_wp2_with fail
  refine (balance_nil _).mono ?_
  rintro e w' ⟨rfl, rfl⟩
  go_wp2_with fail
  refine (spent_nil _).mono ?_
  rintro e w' ⟨rfl, rfl⟩
  go_wp2_with fail
  refine (totals_nil _).mono ?_
  rintro e w7 ⟨rfl, b7⟩
  have O7 : Hid (Own w w7 w.heap.size a0 0 0 0) := Lib.hid (O4.out.below b7)
  have Q7 : Hid (Own w w7 w1.heap.size 0 0 0 0) := Lib.hid (Q4.out.below b7)
  clear b7 O4 Q4
  have heq7 := heq.out w7
  go_wp2_with fail
  refine Q7.out.balance.mono ?_
  rintro e w8 ⟨rfl, Q8, b8⟩
  have O8 : Hid (Own w w8 w.heap.size a0 0 0 0) := Lib.hid (O7.out.below b8.out)
  clear O7 Q7 Q8 b8 heq7
  go_wp2_with fail
  refine O8.out.balance.mono ?_
  rintro e w9 ⟨rfl, O9, _⟩
  clear O8
  go_wp2_with fail
  go_ret
  exact ⟨rfl, O9.out.2.2.1⟩
end Go.Proofs.Ytbebmdbhoombgaa
