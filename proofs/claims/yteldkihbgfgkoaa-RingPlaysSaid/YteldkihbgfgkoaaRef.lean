/- The reference's ring: Pop, Peek. -/
import Derived.Test.YteldkihbgfgkoaaInts
namespace Go.Proofs.Yteldkihbgfgkoaa
open Go.RowKit
set_option linter.unusedVariables false

/-- The reference's ring in block d: it reads as L; its list lies in no block of S. -/
def RefAt (w : World) (S : Nat → Prop) (d size : Nat) (L : List Int) : Prop :=
  ∃ a cap, Blk w d 30 #[.slice a L.length cap, .int .i64 size] ∧ IntsAt w (fun i => i = d ∨ S i) a L ∧ L.length ≤ cap ∧ cap ≤ 9223372036854775807 ∧ L.length ≤ size
section
variable {w w' : World} {S T : Nat → Prop} {d size : Nat} {L : List Int}
theorem RefAt.kept (h : RefAt w S d size L) (k : Kept T w w') (hd : ¬ T d) (hT : ∀ i, i < w.heap.size → T i → S i) : RefAt w' S d size L := by
  obtain ⟨a, cap, h1, h2, h3, h4, h5⟩ := h
  exact ⟨a, cap, h1.kept k hd, h2.kept k (fun i hi ht => .inr (hT i hi ht)), h3, h4, h5⟩
theorem RefAt.other (h : RefAt w S d size L) (hT : ∀ i, i < w.heap.size → T i → S i) : RefAt w T d size L := by
  obtain ⟨a, cap, h1, h2, h3⟩ := h
  exact ⟨a, cap, h1, h2.other (fun i hi ht => ht.imp id (hT i hi)), h3⟩
theorem RefAt.drewN (h : RefAt w S d size L) (n : Nat) : RefAt (w.drewN n) S d size L := h
theorem refAt_new (w : World) (S : Nat → Prop) (size : Nat) : RefAt (w.alloc (.cells #[.slice none 0 0, .int .i64 size] 30)) S w.heap.size size [] :=
  ⟨none, 0, Blk.new _ _ _, IntsAt.nil _ _ _, by simp, by omega, by simp⟩

theorem refpop_empty (S : Nat → Prop) (d size : Nat) (w : World) (h : RefAt w S d size []) :
    Calls Try.prog 29 #[.pointer (some ⟨d, 0, none⟩)] w fun e w' => e = .returned (.tuple #[.int .i64 0, .bool false]) ∧ w = w' := by
  obtain ⟨a, cap, h1, _⟩ := h
  have c0 : w.cell? ⟨d, 0, none⟩ = some (.slice a 0 cap) := h1.cell 0
  clear h1
  go_enter Try.func29, Try.ntmps29
  go_wp2
  go_ret2
  exact ⟨rfl, rfl⟩
theorem refpop_at (S : Nat → Prop) (d size : Nat) (x : Int) (L : List Int) (w : World) (h : RefAt w S d size (x :: L)) :
    Calls Try.prog 29 #[.pointer (some ⟨d, 0, none⟩)] w fun e w' => e = .returned (.tuple #[.int .i64 x, .bool true]) ∧ RefAt w' S d size L ∧ Kept (fun i => i = d) w w' := by
  obtain ⟨a, cap, h1, h2, h3, h4, h5⟩ := h
  obtain ⟨b, off, rfl, hn, hb, hc⟩ := h2 (by simp)
  simp only [List.length_cons] at h1 h3 h5 hc
  obtain ⟨n, hl⟩ : ∃ n, L.length = n := ⟨_, rfl⟩
  rw [hl] at h1 h3 h5 hc
  have c0 : w.cell? ⟨d, 0, none⟩ = some (.slice (some ⟨b, off, none⟩) (n + 1) cap) := h1.cell 0
  have f0 := h1.frozen 0
  have e0 : w.cell? ⟨b, off, none⟩ = some (.int .i64 x) := by simpa using hc 0 (by omega)
  have H1 := Lib.hid h1
  have HC := Lib.hid hc
  have HL := Lib.hid hl
  clear h1 h2 hc hl
  have hz : ¬ n + 1 = 0 := by omega
  go_enter Try.func29, Try.ntmps29
  go_wp2
  all_goals
    go_ret2
    have hs := H1.out.set_ 0
    have hL := HL.out
    refine ⟨rfl, ⟨_, _, by rw [hL]; exact hs _, fun h0 => ?_, by omega, by omega, by omega⟩, Kept.setCell (S := fun i => i = d) (Kept.refl _ _) (.inl rfl) _⟩
    first
      | omega
      | (refine ⟨b, off + 1, rfl, hn, by simpa [World.setCell] using hb, fun j hj => ?_⟩
         have hc1 := HC.out (j + 1) (by omega)
         rw [World.cell?_setCell_other _ _ _ _ (fun e => hn (.inl (by have := congrArg Addr.block e; simpa using this.symm))), show off + 1 + j = off + (j + 1) by omega, hc1]
         simp)
/-- An index that is out of range; one that is not. -/
theorem refpeek_out (S : Nat → Prop) (d size : Nat) (i : Int) (L : List Int) (w : World) (h : RefAt w S d size L) (ho : i < 0 ∨ (L.length : Int) ≤ i) :
    Calls Try.prog 18 #[.pointer (some ⟨d, 0, none⟩), .int .i64 i] w fun e w' => e = .returned (.tuple #[.int .i64 0, .bool false]) ∧ w = w' := by
  obtain ⟨a, cap, h1, _⟩ := h
  have c0 : w.cell? ⟨d, 0, none⟩ = some (.slice a L.length cap) := h1.cell 0
  clear h1
  by_cases h : i < 0
  · clear ho
    go_enter Try.func18, Try.ntmps18
    go_wp2
    go_ret2
    exact ⟨rfl, rfl⟩
  · have h' : 0 ≤ i := by omega
    have h2 : (L.length : Int) ≤ i := by omega
    clear ho
    go_enter Try.func18, Try.ntmps18
    go_wp2
    go_ret2
    exact ⟨rfl, rfl⟩
theorem refpeek_at (S : Nat → Prop) (d size i : Nat) (L : List Int) (w : World) (h : RefAt w S d size L) (hi : i < L.length) :
    Calls Try.prog 18 #[.pointer (some ⟨d, 0, none⟩), .int .i64 i] w fun e w' => e = .returned (.tuple #[.int .i64 (L.getD i 0), .bool true]) ∧ w = w' := by
  obtain ⟨a, cap, h1, h2, h3, h4, h5⟩ := h
  obtain ⟨b, off, rfl, hn, hb, hc⟩ := h2 (by omega)
  have c0 : w.cell? ⟨d, 0, none⟩ = some (.slice (some ⟨b, off, none⟩) L.length cap) := h1.cell 0
  have e0 := hc i hi
  generalize L.getD i 0 = x at *
  have hi1 : ¬ (i : Int) < 0 := by omega
  have hi2 : ¬ (L.length : Int) ≤ (i : Int) := by omega
  have hi3 : (i : Int) < (L.length : Int) := by omega
  clear h1 h2 hc
  go_enter Try.func18, Try.ntmps18
  go_wp2
  go_ret2
  exact ⟨rfl, rfl⟩
end
end Go.Proofs.Yteldkihbgfgkoaa
