/- The chapter's example holds; rings of integers in a law's hands. -/
import Derived.Test.YteldkihbgfgkoaaPushInt
import Derived.Test.YteldkihbgfgkoaaAllInt
import Derived.Test.YteldkihbgfgkoaaOneInt
import Derived.Test.YteldkihbgfgkoaaClearInt
import Derived.Test.YteldkihbgfgkoaaStructs
namespace Go.Proofs.Yteldkihbgfgkoaa
open Go.RowKit
set_option linter.unusedVariables false

theorem foot_moved {w : World} {b B : Nat} {g g' : Option Nat} (h : ∀ i, Foot b g i → B ≤ i) (hm : Moved w g g') (hB : B ≤ w.heap.size) : ∀ i, Foot b g' i → B ≤ i := by
  rintro i (hi | hi)
  · exact h i (.inl hi)
  · rcases hm i hi.symm with h1 | h1
    · exact h i (.inr h1.symm)
    · omega
/-- A block that is not the ring's stays so. -/
theorem foot_not {w : World} {b d : Nat} {g g' : Option Nat} (h : ¬ Foot b g d) (hm : Moved w g g') (hd : d < w.heap.size) : ¬ Foot b g' d := by
  rintro (hi | hi)
  · exact h (.inl hi)
  · rcases hm d hi.symm with h1 | h1
    · exact h (.inr h1.symm)
    · omega
theorem foot_none {b B : Nat} (h : B ≤ b) : ∀ i, Foot b none i → B ≤ i := by
  rintro i (hi | hi)
  · omega
  · cases hi
theorem src_blk {w : World} {g : Nat} {t : TypeId} {S : Nat → Prop} {cs : List Value} {n : Nat} (h : Blk w g t cs.toArray) (hn : ¬ S g) (hl : cs.length = n) (h1 : ∀ v ∈ cs, v.oneCell' = true) : Src w S (some ⟨g, 0, none⟩) n 1 cs :=
  ⟨by omega, h1, fun _ => ⟨_, rfl, hn, fun j v hv => by rw [add_plain, Nat.zero_add, h.cell]; simpa using hv⟩⟩

theorem alive_any (w : World) : Calls Try.prog 10 #[] w fun e w' => e = .returned (.bool true) ∧ Below w.heap.size w w' := by
  have hn : ∀ w : World, Calls Try.prog 9 #[.int .i64 2] w fun e w' => e = .returned (.pointer (some ⟨w.heap.size, 0, none⟩)) ∧ w.alloc (.cells #[.int .i64 2, .slice none 0 0, .int .i64 0, .int .i64 0] 61) = w' := fun w => ri_new_some 2 w (by omega) (by omega)
  have hp : ∀ (b : Nat) (g : Option Nat) (ad : Addr) (w : World), RingAt 61 3 1 w b g 2 0 [] → Src w (Foot b g) (some ad) 3 1 [.int .i64 1, .int .i64 2, .int .i64 3] →
      Calls Try.prog 19 #[.pointer (some ⟨b, 0, none⟩), .slice (some ad) 3 3] w fun e w' => e = .returned (.int .i64 2) ∧ ∃ g', RingAt 61 3 1 w' b g' 2 2 [.int .i64 1, .int .i64 2] ∧ Moved w g g' ∧ Kept (Foot b g) w w' := fun b g ad w h1 h2 =>
    ri_push_any b 2 0 3 3 g (some ad) [] [.int .i64 1, .int .i64 2, .int .i64 3] w h1 h2 (by omega) (by omega)
  have hq : ∀ (b : Nat) (g : Option Nat) (w : World), RingAt 61 3 1 w b g 2 2 [.int .i64 1, .int .i64 2] →
      Calls Try.prog 20 #[.pointer (some ⟨b, 0, none⟩)] w fun e w' => e = .returned (.tuple #[.int .i64 1, .bool true]) ∧ RingAt 61 3 1 w' b g 2 1 [.int .i64 2] ∧ Kept (Foot b g) w w' := fun b g w h =>
    ri_pop_at b 2 1 g [.int .i64 2] (.int .i64 1) w h
  have hf : ∀ (b : Nat) (w : World), w.cell? ⟨b, 0, none⟩ = some (.int .i64 2) → w.cell? ⟨b, 3, none⟩ = some (.int .i64 1) → Calls Try.prog 14 #[.pointer (some ⟨b, 0, none⟩)] w fun e w' => e = .returned (.int .i64 1) ∧ ∃ m, w' = w.drewN m := fun b w h0 h3 =>
    ri_free_any b 2 1 w h0 h3 (by omega) (by omega)
  have HN := Lib.hid hn
  have HP := Lib.hid hp
  have HQ := Lib.hid hq
  have HF := Lib.hid hf
  clear hn hp hq hf
  go_enter Try.func10, Try.ntmps10
  go_wp2_with fail
  refine (HN.out _).mono ?_
  rintro e w1 ⟨rfl, hw1⟩
  have R1 : Hid (RingAt 61 3 1 w1 w.heap.size none 2 0 []) := by rw [← hw1]; exact Lib.hid (ringAt_new w _ _ 1 2 (by omega) (by omega))
  have B1 : Below w.heap.size w w1 := by rw [← hw1]; exact (Below.refl _ _).alloc (Nat.le_refl _) _
  have hz : w1.heap.size = w.heap.size + 1 := by rw [← hw1]; simp
  have HZ := Lib.hid hz
  clear hw1 hz
  go_wp2_with fail
  have hsrc : Src (w1.alloc (.cells #[.int .i64 1, .int .i64 2, .int .i64 3] 3)) (Foot w.heap.size none) (some ⟨w1.heap.size, 0, none⟩) 3 1 [.int .i64 1, .int .i64 2, .int .i64 3] :=
    src_blk (Blk.new w1 _ _) (fun h => Nat.lt_irrefl _ (R1.out.lt _ h)) rfl (fun v hv => by simp at hv; rcases hv with rfl | rfl | rfl <;> rfl)
  refine (HP.out _ none _ _ (R1.out.kept (S := fun _ => False) ((Kept.refl _ w1).alloc _) (fun _ _ h => h)) hsrc).mono ?_
  rintro e w2 ⟨rfl, g, r2, m2, k2⟩
  have R2 := Lib.hid r2
  have F2 := Lib.hid (foot_moved (foot_none (Nat.le_refl w.heap.size)) m2 (by have := B1.size; simp; omega))
  have B2 := Kept.below (B1.alloc B1.size _) k2 (foot_none (Nat.le_refl w.heap.size)) (by have := B1.size; simp; omega)
  clear r2 m2 k2 hsrc B1
  go_wp2_with fail
  refine (HQ.out _ g _ R2.out).mono ?_
  rintro e w3 ⟨rfl, r3, k3⟩
  have R3 := Lib.hid r3
  have B3 := Kept.below B2 k3 F2.out B2.size
  clear r3 k3 B2
  go_wp2_with fail
  refine (ri_len_any _ _ _ R3.out.cells.2).mono ?_
  rintro e w' ⟨rfl, rfl⟩
  go_wp2_with fail
  refine (HF.out _ _ R3.out.cells.1 R3.out.cells.2).mono ?_
  rintro e w' ⟨rfl, m, rfl⟩
  go_wp2_with fail
  go_ret
  exact ⟨rfl, below_drewN B3 m⟩
end Go.Proofs.Yteldkihbgfgkoaa
