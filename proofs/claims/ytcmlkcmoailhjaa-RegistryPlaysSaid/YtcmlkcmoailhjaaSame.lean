/- A struct or an array of integers is equal to itself ('==' as the program computes it). No program in sight. -/
import Derived.Test.YtcmlkcmoailhjaaWords
import Derived.ChangeKeysEq
import Derived.Laws.StructEq
namespace Go.Proofs.Ytcmlkcmoailhjaa
open Go.RowKit

section
variable {P : Program} (w : World)
theorem plainKey_int {t : TypeId} {k : IntKind} (h : P.underlying t = some (.int k)) : P.plainKey t = true := by simp [Program.plainKey, h]
theorem eqItems_same (d : Nat) {e : TypeId} {k : IntKind} (he : P.underlying e = some (.int k)) (xs : Array Value) :
    ∀ (is : List Nat), (∀ i ∈ is, ∃ n, xs[i]? = some (.int k n)) → (Op.eqItems (d + 1) e 1 xs xs is).run P w = .ok true w
  | [], _ => by simp [Op.eqItems]
  | i :: is, h => by
    obtain ⟨n, hn⟩ := h i (by simp)
    have hp := run_part_plain w (plainKey_int he) (off := i * 1) (by simpa using hn)
    have hq := run_equalIn_int (P := P) w d e k k n n he
    simp only [Op.eqItems, Sem.run_bind, hp, hq, Result.andThen_ok]
    simpa using eqItems_same d he xs is (fun j hj => h j (by simp [hj]))
theorem eqFields_same (d : Nat) (xs : Array Value) :
    ∀ (fs : List Field), (∀ f ∈ fs, ∃ k n, P.underlying f.type = some (.int k) ∧ xs[f.offset]? = some (.int k n)) → (Op.eqFields (d + 1) xs xs fs).run P w = .ok true w
  | [], _ => by simp [Op.eqFields]
  | f :: fs, h => by
    obtain ⟨k, n, hk, hn⟩ := h f (by simp)
    have hp := run_part_plain w (plainKey_int hk) hn
    have hq := run_equalIn_int (P := P) w d f.type k k n n hk
    have hr := eqFields_same d xs fs (fun j hj => h j (by simp [hj]))
    by_cases hname : f.name = "_"
    · simpa [Op.eqFields, hname] using hr
    · simp only [Op.eqFields, hname, ne_eq, not_false_eq_true, if_true, Sem.run_bind, hp, hq, Result.andThen_ok]
      simpa using hr

theorem plainKey_string {t : TypeId} (h : P.underlying t = some .string) : P.plainKey t = true := by simp [Program.plainKey, h]
theorem eqItems_same_string (d : Nat) {e : TypeId} (he : P.underlying e = some .string) (xs : Array Value) :
    ∀ (is : List Nat), (∀ i ∈ is, ∃ n, xs[i]? = some (.string n)) → (Op.eqItems (d + 1) e 1 xs xs is).run P w = .ok true w
  | [], _ => by simp [Op.eqItems]
  | i :: is, h => by
    obtain ⟨n, hn⟩ := h i (by simp)
    have hp := run_part_plain w (plainKey_string he) (off := i * 1) (by simpa using hn)
    have hq := run_equalIn_string (P := P) w d e n n he
    simp only [Op.eqItems, Sem.run_bind, hp, hq, Result.andThen_ok]
    simpa using eqItems_same_string d he xs is (fun j hj => h j (by simp [hj]))
/-- An array of n strings. -/
theorem equal_array_string {t e : TypeId} {n : Nat} {i : TypeInfo} (xs : Array Value) (hu : P.underlying t = some (.array n e)) (hi : P.info? e = some i) (hc : P.cellsOf e = 1) (he : P.underlying e = some .string)
    (hx : ∀ j, j < n → ∃ m, xs[j]? = some (.string m)) : (Op.equalIn 10000 t (.agg xs) (.agg xs)).run P w = .ok true w := by
  rw [run_equalIn_array w 9999 xs xs hu hi, hc]
  exact eqItems_same_string w 9998 he xs _ (fun j hj => hx j (by simpa using hj))
/-- An array of n integers. -/
theorem equal_array_same {t e : TypeId} {n : Nat} {k : IntKind} {i : TypeInfo} (xs : Array Value) (hu : P.underlying t = some (.array n e)) (hi : P.info? e = some i) (hc : P.cellsOf e = 1) (he : P.underlying e = some (.int k))
    (hx : ∀ j, j < n → ∃ m, xs[j]? = some (.int k m)) : (Op.equalIn 10000 t (.agg xs) (.agg xs)).run P w = .ok true w := by
  rw [run_equalIn_array w 9999 xs xs hu hi, hc]
  exact eqItems_same w 9998 he xs _ (fun j hj => hx j (by simpa using hj))
/-- A struct of integers, each field one cell, in order. -/
theorem equal_struct_same {t : TypeId} {fs : Array Field} (xs : Array Value) (hu : P.underlying t = some (.struct fs)) (hp : P.stoodInHeld t = false)
    (hx : ∀ f ∈ fs.toList, ∃ k n, P.underlying f.type = some (.int k) ∧ xs[f.offset]? = some (.int k n)) : (Op.equalIn 10000 t (.agg xs) (.agg xs)).run P w = .ok true w := by
  have hf : P.fieldsOf t = fs := by simp [Program.fieldsOf, hu]
  rw [run_equalIn_struct w 9999 t xs xs (by rw [hf]; exact hu) hp, hf]
  exact eqFields_same w 9998 xs _ hx
/-- '==' on two equal rows, as an operation. -/
theorem exec_same {a : Act} {dst : Option Tmp} {t yt ty : TypeId} {x y : Operand} {pos : String} {after : Array Edge} {guard : Option (Nat × Bool)} {xs : Array Value} (hx : a.eval x = .agg xs) (hy : a.eval y = .agg xs)
    (hg : P.eqGuardType P.depth t = false) (he : (Op.equalIn 10000 t (.agg xs) (.agg xs)).run P w = .ok true w) :
    (execOp a.eval { dst, op := .binOp .eql t x y yt, type := ty, pos, after, guard }).run P w = .ok (.value (.bool true)) w := by
  simp only [execOp, hx, hy, Sem.run_bind, run_eqGuard_agg w .eql t x y xs xs hg, Result.andThen_ok, run_eql_struct, he, Sem.run_pure]
/-- '!=' on two equal rows, as an operation. -/
theorem exec_same_neq {a : Act} {dst : Option Tmp} {t yt ty : TypeId} {x y : Operand} {pos : String} {after : Array Edge} {guard : Option (Nat × Bool)} {xs : Array Value} (hx : a.eval x = .agg xs) (hy : a.eval y = .agg xs)
    (hg : P.eqGuardType P.depth t = false) (he : (Op.equalIn 10000 t (.agg xs) (.agg xs)).run P w = .ok true w) :
    (execOp a.eval { dst, op := .binOp .neq t x y yt, type := ty, pos, after, guard }).run P w = .ok (.value (.bool false)) w := by
  simp only [execOp, hx, hy, Sem.run_bind, run_eqGuard_agg w .neq t x y xs xs hg, Result.andThen_ok, run_neq_struct, he, Sem.run_pure, Bool.not_true]
end
end Go.Proofs.Ytcmlkcmoailhjaa
