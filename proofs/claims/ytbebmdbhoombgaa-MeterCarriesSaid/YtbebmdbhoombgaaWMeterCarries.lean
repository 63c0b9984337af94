/- The walk of MeterCarries. -/
import Derived.Test.YtbebmdbhoombgaaLive
import Derived.Test.YtbebmdbhoombgaaRd
import Derived.OpenShut
namespace Go.Proofs.Ytbebmdbhoombgaa
open Go Go.RowKit Go.OpenShut
set_option linter.unusedVariables false
set_option linter.unusedSimpArgs false
/-- Two meters of one law, apart: the first has given s of the p that both were granted. -/
def Pair (w0 w : World) (a b : Nat) (A s p : Int) : Prop := (∃ S T, Own w0 w a A S T 0) ∧ (∃ S, Own w0 w b p S 0 0) ∧ a ≠ b ∧ A + s = p ∧ 0 ≤ s ∧ 0 ≤ A

set_option maxHeartbeats 800000 in
theorem walk_MeterCarries (a0 : Int) (a1 : Option Addr) (len1 cap1 : Nat) (z1 : List Int) (w : World) (w0 : (Lit.int .u32 a0).wf = true) (w1 : IsRow .u16 w a1 len1 cap1 z1) :
    Calls Try.prog 6 #[.int .u32 a0, .slice a1 len1 cap1] w fun e w' => e = .returned (.bool true) ∧ Below w.heap.size w w' := by
  obtain ⟨x0, x1⟩ := bounds_u32 w0
  obtain ⟨_, hl, _, _⟩ := w1.len_le
  have R := Lib.hid (Rd.of_row w1)
  clear w0 w1
  by_cases h300 : (300 : Int) < (len1 : Int)
  · go_enter Try.func6, Try.ntmps6
    go_wp2_with fail
    refine (alive_any _).mono ?_
    rintro e w1 ⟨rfl, hb⟩
    have HB := Lib.hid hb
    clear hb
    go_wp2_with fail
    go_ret
    exact ⟨rfl, HB.out⟩
  · go_enter Try.func6, Try.ntmps6
    go_wp2_with fail
    refine (Own.new _).mono ?_
    rintro e w1 ⟨rfl, O1, S1, _⟩
    go_wp2_with fail
    refine (Own.new _).mono ?_
    rintro e w2 ⟨rfl, P2, _, B2⟩
    have HP : Hid (Pair w w2 w.heap.size w1.heap.size 0 0 (((0 : Nat) : Int) * a0)) := Lib.hid (by
      have o := O1.out.below B2.out
      have := S1.out
      rw [show ((0 : Nat) : Int) * a0 = 0 by simp]
      exact ⟨⟨0, 0, o⟩, ⟨0, ⟨P2.out.1, by omega, o.2.2.1, P2.out.2.2.2⟩⟩, by omega, by omega, by omega, by omega⟩)
    clear O1 S1 P2 B2
    generalize w1.heap.size = v at *
    go_wp2_with fail
    go_loopw [7, 24] (fun s7 s24 wr => ∃ (k : Nat) (A s : Int), k ≤ len1 ∧ s24 = .int .i64 k ∧ s7 = .int .u64 s ∧ Hid (Pair w wr w.heap.size v A s ((k : Int) * a0))) (fun _ s24 _ => len1 - (intOf s24).toNat)
    case atStart => exact ⟨0, 0, 0, by omega, rfl, rfl, HP⟩
    case round =>
      obtain ⟨k, A, s, hk, rfl, rfl, H⟩ := hrel
      have hp : Hid ((k : Int) * a0 ≤ 1288490188500 ∧ 0 ≤ (k : Int) * a0) := Lib.hid ⟨by
        have := Int.mul_le_mul (show (k : Int) ≤ 300 by omega) x1 x0 (by omega)
        omega, Int.mul_nonneg (by omega) x0⟩
      by_cases hlt : k < len1
      · have he : Hid (((k + 1 : Nat) : Int) * a0 = (k : Int) * a0 + a0) := Lib.hid (by rw [Int.natCast_add, Int.add_mul]; simp)
        obtain ⟨p, hpp⟩ : ∃ p, p = (k : Int) * a0 := ⟨_, rfl⟩
        rw [← hpp] at hp he H
        clear hpp
        obtain ⟨⟨S, T, OA⟩, ⟨SB, OB⟩, hne, hsum, s0, A0⟩ := H.out
        obtain ⟨g, off, rfl, hg, hc⟩ := Rd.below R.out OA.2.2.1 (by omega)
        have hcell := (hc k hlt).1
        obtain ⟨u0, u1⟩ := bounds_u16 (hc k hlt).2
        clear hc hg
        generalize z1.getD k 0 = x at *
        have HA := Lib.hid OA
        have HB := Lib.hid OB
        have HS := Lib.hid hsum
        have HN : Hid (some w.heap.size ≠ some v ∧ some v ≠ some w.heap.size ∧ w.heap.size ≤ v) := Lib.hid ⟨fun e => hne (by injection e), fun e => hne (by injection e with e; exact e.symm), OB.2.1⟩
        clear OA OB H hsum hne
        go_wp2_with fail
        refine (HA.out.grant (x := a0) (B' := A + a0) x0 (by have := hp.out; have := HS.out; omega) rfl).mono ?_
        rintro e w3 ⟨rfl, A3, g3⟩
        have B3 : Hid (Own w w3 v p SB 0 0) := Lib.hid (HB.out.grown g3.out HN.out.2.1 (Nat.le_refl _))
        clear HA HB g3
        go_wp2_with fail
        refine (B3.out.grant (x := a0) (B' := p + a0) x0 (by have := hp.out; omega) rfl).mono ?_
        rintro e w4 ⟨rfl, B4, g4⟩
        have A4 : Hid (Own w w4 w.heap.size (A + a0) 0 T 0) := Lib.hid (A3.out.grown g4.out HN.out.1 HN.out.2.2)
        clear A3 B3 g4
        by_cases h : x ≤ A + a0
        · go_wp2_with fail
          refine (A4.out.take (x := x) u0 h rfl rfl).mono ?_
          rintro e w5 ⟨rfl, T', A5, g5⟩
          have B5 : Hid (Own w w5 v (p + a0) 0 0 0) := Lib.hid (B4.out.grown g5.out HN.out.2.1 (Nat.le_refl _))
          have s1 : s ≤ 1288490188500 := by have := hp.out; have := HS.out; omega
          clear A4 B4 g5
          go_wp2_with fail
          go_roundw
          case rel => exact ⟨k + 1, A + a0 - x, s + x, by omega, by go_num, by go_num, Lib.hid (by rw [he.out]; exact ⟨⟨_, _, A5.out⟩, ⟨_, B5.out⟩, fun e => HN.out.1 (by rw [e]), by have := HS.out; omega, by omega, by omega⟩)⟩
          case measure => simp [intOf]; omega
        · go_wp2_with fail
          refine (A4.out.refuse (x := x) (by omega)).mono ?_
          rintro e w5 ⟨rfl, A5, g5⟩
          have B5 : Hid (Own w w5 v (p + a0) 0 0 0) := Lib.hid (B4.out.grown g5.out HN.out.2.1 (Nat.le_refl _))
          clear A4 B4 g5
          go_wp2_with fail
          go_roundw
          case rel => exact ⟨k + 1, A + a0, s, by omega, by go_num, rfl, Lib.hid (by rw [he.out]; exact ⟨⟨_, _, A5.out⟩, ⟨_, B5.out⟩, fun e => HN.out.1 (by rw [e]), by have := HS.out; omega, by omega, by omega⟩)⟩
          case measure => simp [intOf]; omega
      · obtain rfl : k = len1 := by omega
        clear hlt
        have hlt : ¬ k < k := by omega
        have hmul : IntKind.u64.wrap (a0 * (k : Int)) = (k : Int) * a0 := by rw [Int.mul_comm]; exact IntWalk.u64_in _ (by have := hp.out; omega)
        obtain ⟨p, hpp⟩ : ∃ p, p = (k : Int) * a0 := ⟨_, rfl⟩
        rw [← hpp] at hp H hmul
        clear hpp
        obtain ⟨⟨S, T, OA⟩, ⟨SB, OB⟩, hne, hsum, s0, A0⟩ := H.out
        have hsub : IntKind.u64.wrap (p - s) = A := by rw [← hsum, Int.add_sub_cancel]; exact IntWalk.u64_in _ (by have := hp.out; omega)
        have HA := Lib.hid OA
        have HB := Lib.hid OB
        have HN : Hid (some w.heap.size ≠ some v ∧ some v ≠ some w.heap.size ∧ w.heap.size ≤ v) := Lib.hid ⟨fun e => hne (by injection e), fun e => hne (by injection e with e; exact e.symm), OB.2.1⟩
        have HS := Lib.hid hsum
        clear OA OB H hsum hne
        go_wp2_with fail
        refine (alive_any _).mono ?_
        rintro e w3 ⟨rfl, b3⟩
        have A3 := Lib.hid (HA.out.below b3)
        have B3 := Lib.hid (HB.out.below b3)
        clear b3 HA HB
        go_wp2_with fail
        refine (B3.out.take (x := s) (B' := A) s0 (by have := HS.out; omega) (by have := HS.out; omega) rfl).mono ?_
        rintro e w4 ⟨rfl, T', B4, g4⟩
        have A4 : Hid (Own w w4 w.heap.size A S T 0) := Lib.hid (A3.out.grown g4.out HN.out.1 HN.out.2.2)
        clear A3 B3 g4
        go_wp2_with fail
        refine A4.out.balance.mono ?_
        rintro e w5 ⟨rfl, A5, b5⟩
        have B5 := Lib.hid (B4.out.below b5.out)
        clear A4 B4 b5
        go_wp2_with fail
        refine B5.out.balance.mono ?_
        rintro e w6 ⟨rfl, _, b6⟩
        have A6 := Lib.hid (A5.out.below b6.out)
        clear A5 B5 b6
        go_wp2_with fail
        refine A6.out.balance.mono ?_
        rintro e w7 ⟨rfl, A7, _⟩
        clear A6
        go_wp2_with fail
        go_ret
        exact ⟨rfl, A7.out.2.2.1⟩
end Go.Proofs.Ytbebmdbhoombgaa
