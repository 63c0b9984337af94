/- The walk of RingBounds. -/
import Derived.Test.YteldkihbgfgkoaaAlive
import Derived.Test.YteldkihbgfgkoaaInts
import Derived.Outline
namespace Go.Proofs.Yteldkihbgfgkoaa
open Go.RowKit Go.OpenShut
set_option linter.unusedVariables false
set_option maxRecDepth 100000 in
theorem walk_RingBounds (a0 : Int) (a1 : Option Addr) (len1 cap1 : Nat) (z1 : List Int) (a2 : Option Addr) (len2 cap2 : Nat) (z2 : List Int) (w : World) (w0 : (Lit.int .u8 a0).wf = true) (w1 : IsRow .i64 w a1 len1 cap1 z1) (w2 : IsRow .i64 w a2 len2 cap2 z2) :
    Calls Try.prog 6 #[.int .u8 a0, .slice a1 len1 cap1, .slice a2 len2 cap2] w fun e w' => e = .returned (.bool true) ∧ Below w.heap.size w w' := by
  obtain ⟨u0, u1⟩ := bounds_u8 w0
  obtain ⟨I1, l1, c1, d1⟩ := IntsAt.of_row (S := fun i => w.heap.size ≤ i) w1 (fun i hi h => by omega)
  obtain ⟨I2, l2, c2, d2⟩ := IntsAt.of_row (S := fun i => w.heap.size ≤ i) w2 (fun i hi h => by omega)
  have J1 := Lib.hid I1
  have J2 := Lib.hid I2
  have L1 := Lib.hid l1
  have L2 := Lib.hid l2
  clear w0 w1 w2 I1 I2 l1 l2
  by_cases hb1 : (300 : Int) < (len1 : Int)
  · go_enter Try.func6, Try.ntmps6
    go_wp2_with fail
    refine (alive_any _).mono ?_
    rintro e w4 ⟨rfl, hb4⟩
    go_wp2_with fail
    go_ret
    exact ⟨rfl, hb4⟩
  · by_cases hb2 : (300 : Int) < (len2 : Int)
    · go_enter Try.func6, Try.ntmps6
      go_wp2_with fail
      refine (alive_any _).mono ?_
      rintro e w4 ⟨rfl, hb4⟩
      go_wp2_with fail
      go_ret
      exact ⟨rfl, hb4⟩
    · obtain ⟨n, hn, hn1, hn2⟩ : ∃ n : Nat, a0 % 40 + 1 = n ∧ 1 ≤ n ∧ n ≤ 40 := ⟨(a0 % 40 + 1).toNat, by omega, by omega, by omega⟩
      obtain ⟨x, hx, hx0⟩ : ∃ x : Nat, min len1 (n - 0) = x ∧ ((len1 < n ∧ x = len1) ∨ (¬ len1 < n ∧ x = n)) := ⟨_, rfl, by omega⟩
      obtain ⟨q, hq, hq2⟩ : ∃ q : Nat, (n : Int) - (x : Int) = (q : Int) ∧ q ≤ 40 := ⟨n - x, by omega, by omega⟩
      obtain ⟨y, hy, hy0⟩ : ∃ y : Nat, min len2 (n - (0 + x)) = y ∧ ((len2 < q ∧ y = len2) ∨ (¬ len2 < q ∧ y = q)) := ⟨_, rfl, by omega⟩
      have HX := Lib.hid hx
      have HY := Lib.hid hy
      have HX0 := Lib.hid hx0
      have HY0 := Lib.hid hy0
      have hxy : x + y ≤ n := by omega
      have HQ := Lib.hid hq
      clear hx hy hx0 hy0 hq
      go_enter Try.func6, Try.ntmps6
      go_wp2_with fail
      refine (ri_new_some n _ hn1 (by omega)).mono ?_
      rintro e w1 ⟨rfl, hw1⟩
      have R1 : Hid (RingAt 61 3 1 w1 w.heap.size none n 0 []) := by rw [← hw1]; exact Lib.hid (ringAt_new w _ _ 1 n hn1 (by omega))
      have B1 : Below w.heap.size w w1 := by rw [← hw1]; exact (Below.refl _ _).alloc (Nat.le_refl _) _
      have F1 := Lib.hid (foot_none (b := w.heap.size) (Nat.le_refl w.heap.size))
      clear hw1
      go_wp2_with fail
      have s1 := (J1.out.kept (Kept.of_below (S := fun _ => False) B1) (fun _ _ h => h.elim)).src
      rw [L1.out] at s1
      have p1 := ri_push_any w.heap.size n 0 len1 cap1 none a1 [] _ w1 R1.out (s1.sub F1.out) c1 d1
      rw [HX.out] at p1
      refine p1.mono ?_
      clear p1 s1
      rintro e w2 ⟨rfl, g2, r2, m2, k2⟩
      have R2 := Lib.hid r2
      have F2 := Lib.hid (foot_moved F1.out m2 B1.size)
      have B2 := Kept.below B1 k2 F1.out B1.size
      clear r2 m2 k2
      go_wp2_with fail
      have s2 := (J2.out.kept (Kept.of_below (S := fun _ => False) B2) (fun _ _ h => h.elim)).src
      rw [L2.out] at s2
      have p2 := ri_push_any w.heap.size n (0 + x) len2 cap2 g2 a2 _ _ w2 R2.out (s2.sub F2.out) c2 d2
      rw [HY.out] at p2
      refine p2.mono ?_
      clear p2 s2
      rintro e w3 ⟨rfl, g3, r3, m3, k3⟩
      have R3 := Lib.hid r3
      have F3 := Lib.hid (foot_moved F2.out m3 B2.size)
      have B3 := Kept.below B2 k3 F2.out B2.size
      clear r3 m3 k3
      go_wp2_with fail
      refine (alive_any _).mono ?_
      rintro e w4 ⟨rfl, hb4⟩
      have hk4 : Kept (fun _ => False) w3 w4 := Kept.of_below hb4
      have R4 := R3.out.kept hk4 (fun _ _ h => h)
      have B4 : Below w.heap.size w w4 := B3.trans (hb4.mono B3.size)
      obtain ⟨f, hf, hf2⟩ : ∃ f : Nat, n - (0 + x + y) = f ∧ (q : Int) - (y : Int) = (f : Int) := ⟨_, rfl, by have := HQ.out; omega⟩
      have hc3 : w4.cell? ⟨w.heap.size, 3, none⟩ = some (.int .i64 ((x : Int) + (y : Int))) := by
        have := R4.cells.2
        rwa [show ((0 + x + y : Nat) : Int) = (x : Int) + (y : Int) by omega] at this
      have hfree := ri_free_any w.heap.size n (0 + x + y) w4 R4.cells.1 R4.cells.2 (by omega) (by omega)
      rw [hf] at hfree
      have hpush : ∀ m, Calls Try.prog 19 #[.pointer (some ⟨w.heap.size, 0, none⟩), .slice none 0 0] (w4.drewN m) fun e w' => e = .returned (.int .i64 0) ∧ Below w.heap.size w w' := fun m => by
        have := ri_push_any w.heap.size n (0 + x + y) 0 0 g3 none _ [] (w4.drewN m) (R4.drewN m) (Src.nil _ _ _ _) (by omega) (by omega)
        refine this.mono fun e w' ⟨he, g, _, _, hk⟩ => ⟨by rw [he, Nat.zero_min]; rfl, Kept.below (below_drewN B4 m) hk F3.out B4.size⟩
      have HF := Lib.hid hfree
      have HP := Lib.hid hpush
      clear hf hfree hpush R4 hk4 hb4
      have hq := HQ.out
      have hm1 : min (n : Int) (len1 : Int) = (x : Int) := by have := HX0.out; omega
      have hm2 : min (q : Int) (len2 : Int) = (y : Int) := by have := HY0.out; omega
      clear hn
      go_wp2_with fail
      refine (ri_len_any _ _ _ hc3).mono ?_
      rintro e w' ⟨rfl, rfl⟩
      go_wp2_with fail
      refine HF.out.mono ?_
      rintro e w' ⟨rfl, m, rfl⟩
      go_wp2_with fail
      refine (HP.out m).mono ?_
      rintro e w5 ⟨rfl, hB5⟩
      go_wp2_with fail
      go_ret
      exact ⟨rfl, hB5⟩
end Go.Proofs.Yteldkihbgfgkoaa
