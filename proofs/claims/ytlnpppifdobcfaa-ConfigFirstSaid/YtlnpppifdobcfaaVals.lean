/- The reference's Values: the twenty numbers as an array. -/
import Derived.Test.YtlnpppifdobcfaaLive
import Derived.Test.YtlnpppifdobcfaaSame
namespace Go.Proofs.Ytlnpppifdobcfaa
open Go.RowKit
set_option linter.unusedVariables false

def valsOf (c : Nat → Int) : Array Value := #[.int .u64 (IntKind.u64.wrap (c 0)), .int .u64 (IntKind.u64.wrap (c 1)), .int .u64 (c 2), .int .u64 (c 3), .int .u64 (c 4), .int .u64 (c 5), .int .u64 (c 6), .int .u64 (c 7), .int .u64 (c 8), .int .u64 (c 9), .int .u64 (IntKind.u64.wrap (c 10)), .int .u64 (IntKind.u64.wrap (c 11)), .int .u64 (IntKind.u64.wrap (c 12)), .int .u64 (IntKind.u64.wrap (c 13)), .int .u64 (IntKind.u64.wrap (c 14)), .int .u64 (IntKind.u64.wrap (c 15)), .int .u64 (IntKind.u64.wrap (c 16)), .int .u64 (IntKind.u64.wrap (c 17)), .int .u64 (c 18), .int .u64 (c 19)]
/-- The number at a place. -/
def valAt (c : Nat → Int) (k : Nat) : Int := if isI k then IntKind.u64.wrap (c k) else c k
theorem vals_at (c : Nat → Int) (k : Nat) (h : k < 20) : (valsOf c)[k]? = some (.int .u64 (valAt c k)) := by
  have : k = 0 ∨ k = 1 ∨ k = 2 ∨ k = 3 ∨ k = 4 ∨ k = 5 ∨ k = 6 ∨ k = 7 ∨ k = 8 ∨ k = 9 ∨ k = 10 ∨ k = 11 ∨ k = 12 ∨ k = 13 ∨ k = 14 ∨ k = 15 ∨ k = 16 ∨ k = 17 ∨ k = 18 ∨ k = 19 := by omega
  rcases this with rfl | rfl | rfl | rfl | rfl | rfl | rfl | rfl | rfl | rfl | rfl | rfl | rfl | rfl | rfl | rfl | rfl | rfl | rfl | rfl <;> rfl
theorem vals_one (c : Nat → Int) : (valsOf c).all (·.oneCell') = true := by kernel_rfl
theorem info32 : (Try.prog.info? 32).map (·.size) = some 20 := by kernel_rfl
/-- Two rows that read the same at every place. -/
theorem vals_ext {xs : Array Value} {c : Nat → Int} (hs : xs.size = 20) (h : ∀ k, k < 20 → xs[k]? = some (.int .u64 (valAt c k))) : xs = valsOf c := by
  refine Array.ext_getElem? fun k => ?_
  by_cases hk : k < 20
  · rw [h k hk, vals_at c k hk]
  · rw [Array.getElem?_eq_none (by omega), Array.getElem?_eq_none (by show 20 ≤ k; omega)]

theorem setRow_alloc2 (w : World) (A : Obj) (c c' : Array Value) (t : TypeId) : ((w.alloc A).alloc (.cells c t)).setRow (w.heap.size + 1) c' = (w.alloc A).alloc (.cells c' t) := by
  have := World.setRow_alloc_new (w.alloc A) c c' t
  simpa using this
theorem values_any (c : Nat → Int) (w : World) :
    Calls Try.prog 15 #[.agg (cellsOf c)] w fun e w' => e = .returned (.agg (valsOf c)) ∧ Below w.heap.size w w' := by
  unfold cellsOf
  go_enter Try.func15, Try.ntmps15
  go_wp2_with (first
    | (refine wpList_build rfl 32 _ rfl (by kernel_rfl) ?_; rw [show (Try.prog.built 32 _).getD #[] = valsOf c from by kernel_rfl])
    | (refine wpList_store_row rfl _ _ _ rfl (w.heap.size + 1) (valsOf c) rfl rfl 32 _ (heap_alloc2_new w _ _) info32 rfl (vals_one _) ?_; rw [setRow_alloc2]))
  exact bodyPost_ret (v := .agg (valsOf c)) (results_cell_row (fn := Try.f15) rfl _ _ (w.heap.size + 1) 32 (valsOf c) (0, 0) _ rfl (heap_alloc2_new w _ _) Try.underlying32 rfl info32) rfl ⟨rfl, ((Below.refl _ _).alloc (Nat.le_refl _) _).alloc (by simp) _⟩

theorem same32 (c : Nat → Int) (w : World) : (Op.equalIn 10000 32 (.agg (valsOf c)) (.agg (valsOf c))).run Try.prog w = .ok true w := by
  obtain ⟨i, hi⟩ := info_of_underlying Try.underlying22
  exact equal_array_same w (valsOf c) Try.underlying32 hi (by kernel_rfl) Try.underlying22 (fun j hj => ⟨_, vals_at c j hj⟩)
noncomputable def field24 (f : Field) : Bool := decide (f.offset < 20) && (match Try.prog.underlying f.type with | some (.int k) => decide (k = kindOf f.offset) | _ => false)
theorem same24 (c : Nat → Int) (w : World) : (Op.equalIn 10000 24 (.agg (cellsOf c)) (.agg (cellsOf c))).run Try.prog w = .ok true w := by
  refine equal_struct_same w (cellsOf c) Try.underlying24 Try.stoodInHeld24 (fun f hf => ?_)
  have hall : ((match Try.prog.underlying 24 with | some (.struct fs) => fs.toList | _ => []).all field24) = true := by kernel_rfl
  rw [Try.underlying24] at hall
  have h1 := List.all_eq_true.1 hall f hf
  simp only [field24, Bool.and_eq_true, decide_eq_true_eq] at h1
  obtain ⟨ho, h2⟩ := h1
  split at h2
  · rename_i k hk
    have : k = kindOf f.offset := by simpa using h2
    subst this
    exact ⟨_, _, hk, cells_at c _ ho⟩
  · cases h2
end Go.Proofs.Ytlnpppifdobcfaa
