/- Get. -/
import Derived.Test.YtcmlkcmoailhjaaBase
import Derived.Laws.Tables
import Derived.Laws.Build
namespace Go.Proofs.Ytcmlkcmoailhjaa
open Go Go.RowKit Go.Deep
set_option linter.unusedVariables false

theorem wpList_build_val {P : Program} {ops : Array Oper} {rest : List Oper} {o : Oper} {a : Act} {w : World} {Q : Exit → Act → World → Prop} (hg : o.guard = none) (t : TypeId) (parts : Array (Nat × Operand)) (ho : o.op = .build t parts) (v : Val)
    (hf : P.built t (parts.map fun (i, x) => (i, a.eval x)).toList = some (cellsV v)) (h : wpList P ops Q rest (a.put o.dst (.agg (cellsV v))) w) : wpList P ops Q (o :: rest) a w :=
  wpList_build hg t parts ho (by rw [hf]; rfl) (by rw [hf]; exact h)
theorem get_no (p : Option Addr) (i : Int) (w : World) (h : ∀ w', Below w.heap.size w w' → Calls Try.prog 30 #[.pointer p, .int .i64 i] w' fun e w'' => e = .returned (.bool false) ∧ w' = w'') :
    Calls Try.prog 21 #[.pointer p, .int .i64 i] w fun e w' => e = .returned (.tuple #[.agg (cellsV val0), .bool false]) ∧ Below w.heap.size w w' := by
  have H := Lib.hid (h (w.alloc (.cells (cellsV val0) 29)) ((Below.refl _ _).alloc (Nat.le_refl _) _))
  clear h
  go_enter Try.func21, Try.ntmps21
  go_wp2_with fail
  refine H.out.mono ?_
  rintro e w' ⟨rfl, rfl⟩
  go_wp2_with (first | (refine wpList_build_val rfl 29 _ rfl val0 (by kernel_rfl) ?_) | (refine wpList_store_row rfl _ _ _ rfl w.heap.size (cellsV val0) rfl rfl 29 _ (heap_alloc_new w _) infoV rfl (cellsV_one _) ?_; rw [World.setRow_alloc_new]))
  exact bodyPost_ret (v := .tuple #[.agg (cellsV val0), .bool false]) (results_cell_row2 (fn := Try.f21) rfl _ _ w.heap.size 29 _ (0, 0) _ rfl (heap_alloc_new w _) Try.underlying29 rfl infoV) rfl ⟨rfl, (Below.refl _ _).alloc (Nat.le_refl _) _⟩
theorem get_in (b n cp i g off : Nat) (v : Val) (w : World) (h : w.cell? ⟨b, 1, none⟩ = some (.slice (some ⟨g, off, none⟩) n cp)) (hi : i < n) (hr : w.rangeAt g (off + i * 7) v.row) :
    Calls Try.prog 21 #[.pointer (some ⟨b, 0, none⟩), .int .i64 i] w fun e w' => e = .returned (.tuple #[.agg (cellsV v), .bool true]) ∧ Below w.heap.size w w' := by
  have hB := (Below.refl w.heap.size w).alloc (Nat.le_refl _) (.cells (cellsV val0) 29)
  have h1 : (w.alloc (.cells (cellsV val0) 29)).cell? ⟨b, 1, none⟩ = some (.slice (some ⟨g, off, none⟩) n cp) := cell_alloc_some _ h
  have hr1 : (w.alloc (.cells (cellsV val0) 29)).rangeAt g (off + i * 7) v.row := fun j u hu => cell_alloc_some _ (hr j u hu)
  have H := Lib.hid (has_in b n cp i (some ⟨g, off, none⟩) _ h1 hi)
  have HR := Lib.hid hr1
  have hi1 : ¬ (i : Int) < 0 := by omega
  have hi2 : ¬ (n : Int) ≤ (i : Int) := by omega
  have hi3 : (i : Int) < (n : Int) := by omega
  clear h hr hr1
  go_enter Try.func21, Try.ntmps21
  go_wp2_with fail
  refine H.out.mono ?_
  rintro e w' ⟨rfl, rfl⟩
  go_wp2_with (first | (refine wpList_load_val rfl 29 _ rfl g (off + i * 7) rfl v _ HR.out Try.underlying29 rfl infoV ?_) | (refine wpList_store_row rfl _ _ _ rfl w.heap.size (cellsV v) rfl rfl 29 _ (heap_alloc_new w _) infoV rfl (cellsV_one v) ?_; rw [World.setRow_alloc_new]))
  exact bodyPost_ret (v := .tuple #[.agg (cellsV v), .bool true]) (results_cell_row2 (fn := Try.f21) rfl _ _ w.heap.size 29 _ (0, 0) _ rfl (heap_alloc_new w _) Try.underlying29 rfl infoV) rfl ⟨rfl, (Below.refl _ _).alloc (Nat.le_refl _) _⟩
end Go.Proofs.Ytcmlkcmoailhjaa
