/- The accounts' small methods and the reference's: balance, total, Supply, Room; New; the nil ledger. -/
import Derived.Test.YtifjpfalokfhgaaAdd
import Derived.Test.YtifjpfalokfhgaaSame
import Derived.Test.YtifjpfalokfhgaaStructs
import Derived.Laws.Tables
namespace Go.Proofs.Ytifjpfalokfhgaa
open Go.RowKit
set_option linter.unusedVariables false

/-- A ledger: Deposited, Paid, Burned, the cap. -/
def LedAt (w : World) (b : Nat) (D P B C : Int) : Prop := Blk w b 49 #[.int .u64 D, .int .u64 P, .int .u64 B, .int .u64 C]
/-- The reference's. -/
def RefAt (w : World) (d : Nat) (D P B C : Int) : Prop := Blk w d 28 #[.int .u64 C, .int .u64 D, .int .u64 P, .int .u64 B]
/-- The totals fit. -/
def Fits (D P B C : Int) : Prop := 0 ≤ P ∧ 0 ≤ B ∧ P + B ≤ D ∧ D ≤ 18446744073709551615 ∧ D - P - B ≤ C ∧ C ≤ 18446744073709551615
section
variable {w w' : World} {b d : Nat} {D P B C : Int}
theorem LedAt.cells (h : LedAt w b D P B C) : w.cell? ⟨b, 0, none⟩ = some (.int .u64 D) ∧ w.cell? ⟨b, 1, none⟩ = some (.int .u64 P) ∧ w.cell? ⟨b, 2, none⟩ = some (.int .u64 B) ∧ w.cell? ⟨b, 3, none⟩ = some (.int .u64 C) :=
  ⟨Blk.cell h 0, Blk.cell h 1, Blk.cell h 2, Blk.cell h 3⟩
theorem RefAt.cells (h : RefAt w d D P B C) : w.cell? ⟨d, 0, none⟩ = some (.int .u64 C) ∧ w.cell? ⟨d, 1, none⟩ = some (.int .u64 D) ∧ w.cell? ⟨d, 2, none⟩ = some (.int .u64 P) ∧ w.cell? ⟨d, 3, none⟩ = some (.int .u64 B) :=
  ⟨Blk.cell h 0, Blk.cell h 1, Blk.cell h 2, Blk.cell h 3⟩
end

theorem balance_any (b : Nat) (D P B : Int) (w : World) (h0 : w.cell? ⟨b, 0, none⟩ = some (.int .u64 D)) (h1 : w.cell? ⟨b, 1, none⟩ = some (.int .u64 P)) (h2 : w.cell? ⟨b, 2, none⟩ = some (.int .u64 B))
    (hP : 0 ≤ P) (hB : 0 ≤ B) (hD : P + B ≤ D) (hm : D ≤ 18446744073709551615) :
    Calls Try.prog 24 #[.pointer (some ⟨b, 0, none⟩)] w fun e w' => e = .returned (.int .u64 (D - P - B)) ∧ ∃ m, w' = w.drewN m := by
  go_enter Try.func24, Try.ntmps24
  go_wp2
  go_quiet (skip)
  go_wp2
  go_ret
  exact ⟨rfl, _, rfl⟩
theorem refsupply_any (d : Nat) (D P B C : Int) (w : World) (h : RefAt w d D P B C) (hF : Fits D P B C) :
    Calls Try.prog 14 #[.pointer (some ⟨d, 0, none⟩)] w fun e w' => e = .returned (.int .u64 (D - P - B)) ∧ ∃ m, w' = w.drewN m := by
  obtain ⟨c0, c1, c2, c3⟩ := h.cells
  obtain ⟨f0, f1, f2, f3, f4, f5⟩ := hF
  clear h
  go_enter Try.func14, Try.ntmps14
  go_wp2
  go_quiet (skip)
  go_wp2
  go_ret
  exact ⟨rfl, _, rfl⟩
theorem total_0 (b : Nat) (w : World) : Calls Try.prog 30 #[.pointer (some ⟨b, 0, none⟩), .int .i64 0] w fun e w' => e = .returned (.pointer (some ⟨b, 0, none⟩)) ∧ w = w' := by
  go_enter Try.func30, Try.ntmps30
  go_wp2
  go_ret
  exact ⟨rfl, rfl⟩
theorem total_1 (b : Nat) (w : World) : Calls Try.prog 30 #[.pointer (some ⟨b, 0, none⟩), .int .i64 1] w fun e w' => e = .returned (.pointer (some ⟨b, 1, none⟩)) ∧ w = w' := by
  go_enter Try.func30, Try.ntmps30
  go_wp2
  go_ret
  exact ⟨rfl, rfl⟩
theorem total_2 (b : Nat) (w : World) : Calls Try.prog 30 #[.pointer (some ⟨b, 0, none⟩), .int .i64 2] w fun e w' => e = .returned (.pointer (some ⟨b, 2, none⟩)) ∧ w = w' := by
  go_enter Try.func30, Try.ntmps30
  go_wp2
  go_ret
  exact ⟨rfl, rfl⟩

theorem new_any (C : Int) (w : World) :
    Calls Try.prog 9 #[.int .u64 C] w fun e w' => e = .returned (.pointer (some ⟨w.heap.size, 0, none⟩)) ∧ w.alloc (.cells #[.int .u64 0, .int .u64 0, .int .u64 0, .int .u64 C] 49) = w' := by
  go_enter Try.func9, Try.ntmps9
  go_wp2
  go_ret
  exact ⟨rfl, rfl⟩
theorem new_at (C : Int) (w : World) (c0 : 0 ≤ C) (c1 : C ≤ 18446744073709551615) :
    Calls Try.prog 9 #[.int .u64 C] w fun e w' => e = .returned (.pointer (some ⟨w.heap.size, 0, none⟩)) ∧ LedAt w' w.heap.size 0 0 0 C ∧ Fits 0 0 0 C ∧ Below w.heap.size w w' ∧ w'.heap.size = w.heap.size + 1 :=
  (new_any C w).mono fun e w' ⟨he, hw⟩ => ⟨he, hw ▸ Blk.new _ _ _, ⟨by omega, by omega, by omega, by omega, by omega, c1⟩, hw ▸ (Below.refl _ _).alloc (Nat.le_refl _) _, by rw [← hw]; simp⟩

theorem supply_any (b : Nat) (D P B C : Int) (w : World) (h : LedAt w b D P B C) (hF : Fits D P B C) :
    Calls Try.prog 13 #[.pointer (some ⟨b, 0, none⟩)] w fun e w' => e = .returned (.int .u64 (D - P - B)) ∧ ∃ m, w' = w.drewN m := by
  obtain ⟨c0, c1, c2, c3⟩ := h.cells
  obtain ⟨f0, f1, f2, f3, f4, f5⟩ := hF
  have H := Lib.hid (balance_any b D P B w c0 c1 c2 f0 f1 f2 f3)
  clear h c0 c1 c2
  go_enter Try.func13, Try.ntmps13
  go_wp2_with fail
  refine H.out.mono ?_
  rintro e w' ⟨rfl, m, rfl⟩
  go_wp2_with fail
  go_ret
  exact ⟨rfl, _, rfl⟩
theorem supply_nil (w : World) : Calls Try.prog 13 #[.pointer none] w fun e w' => e = .returned (.int .u64 0) ∧ w = w' := by
  go_enter Try.func13, Try.ntmps13
  go_wp2
  go_ret
  exact ⟨rfl, rfl⟩
theorem room_nil (w : World) : Calls Try.prog 15 #[.pointer none] w fun e w' => e = .returned (.int .u64 0) ∧ w = w' := by
  go_enter Try.func15, Try.ntmps15
  go_wp2
  go_ret
  exact ⟨rfl, rfl⟩
theorem infoT : (Try.prog.info? 36).map (·.size) = some 3 := by kernel_rfl
theorem infoA : (Try.prog.info? 47).map (·.size) = some 3 := by kernel_rfl
theorem totals_nil (w : World) : Calls Try.prog 12 #[.pointer none] w fun e w' => e = .returned (.agg #[.int .u64 0, .int .u64 0, .int .u64 0]) ∧ Below w.heap.size w w' := by
  go_enter Try.func12, Try.ntmps12
  go_wp2_with (refine wpList_store_row rfl _ _ _ rfl w.heap.size #[.int .u64 0, .int .u64 0, .int .u64 0] rfl rfl 36 _ (heap_alloc_new w _) infoT rfl rfl ?_; rw [World.setRow_alloc_new])
  exact bodyPost_ret (v := .agg #[.int .u64 0, .int .u64 0, .int .u64 0]) (results_cell_row (fn := Try.f12) rfl _ _ w.heap.size 36 _ (0, 0) _ rfl (heap_alloc_new w _) Try.underlying36 rfl infoT) rfl ⟨rfl, (Below.refl _ _).alloc (Nat.le_refl _) _⟩
theorem totals_any (b : Nat) (D P B C : Int) (w : World) (h : LedAt w b D P B C) :
    Calls Try.prog 12 #[.pointer (some ⟨b, 0, none⟩)] w fun e w' => e = .returned (.agg #[.int .u64 D, .int .u64 P, .int .u64 B]) ∧ Below w.heap.size w w' := by
  have hr : (w.alloc (.cells #[.int .u64 0, .int .u64 0, .int .u64 0] 36)).rangeAt b 0 [.int .u64 D, .int .u64 P, .int .u64 B] := by
    have hb := Blk.alloc h (.cells #[.int .u64 0, .int .u64 0, .int .u64 0] 36)
    intro j v hv
    have hj : j < 3 := (List.getElem?_eq_some_iff.1 hv).1
    rw [Nat.zero_add, Blk.cell hb j]
    obtain rfl | rfl | rfl : j = 0 ∨ j = 1 ∨ j = 2 := by omega
    all_goals exact hv
  have HR := Lib.hid hr
  clear h hr
  go_enter Try.func12, Try.ntmps12
  go_wp2_with (first | (refine wpList_load_mid rfl 47 _ rfl b 0 rfl _ _ HR.out Try.underlying47 rfl infoA ?_) | (refine wpList_store_row rfl _ _ _ rfl w.heap.size #[.int .u64 D, .int .u64 P, .int .u64 B] rfl rfl 36 _ (heap_alloc_new w _) infoT rfl rfl ?_; rw [World.setRow_alloc_new]))
  exact bodyPost_ret (v := .agg #[.int .u64 D, .int .u64 P, .int .u64 B]) (results_cell_row (fn := Try.f12) rfl _ _ w.heap.size 36 _ (0, 0) _ rfl (heap_alloc_new w _) Try.underlying36 rfl infoT) rfl ⟨rfl, (Below.refl _ _).alloc (Nat.le_refl _) _⟩
end Go.Proofs.Ytifjpfalokfhgaa
