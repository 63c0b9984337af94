/- slices.Contains of a row of bools that are all true; Blocks as a natural number; what a cover needs. -/
import Derived.Test.YtokkdeoimhibpaaSeen
namespace Go.Proofs.Ytokkdeoimhibpaa
open Go Go.RowKit Go.Deep
set_option linter.unusedVariables false
set_option linter.unusedSimpArgs false

theorem index_none (g n : Nat) (w : World) (h : BlkB w g (List.replicate n true)) (hn : n ≤ 100) : Calls Try.prog 21 #[.slice (some ⟨g, 0, none⟩) n n, .bool false] w fun e w' => e = .returned (.int .i64 (-1)) ∧ w = w' := by
  have H := Lib.hid h
  clear h
  go_enter Try.func21, Try.ntmps21
  go_wp2
  go_loop [8] (fun s8 => ∃ k : Nat, k ≤ n ∧ s8 = .int .i64 k) (fun s8 => n - (intOf s8).toNat)
  case atStart => exact ⟨0, by omega, rfl⟩
  case round =>
    obtain ⟨k, hk, rfl⟩ := hrel
    by_cases hlt : k < n
    · have x : w.cell? ⟨g, k, none⟩ = some (.bool true) := by
        rw [H.out.cell (by simpa using hlt)]
        simp [List.getElem?_replicate, hlt]
      go_wp2
      go_round
      case rel => exact ⟨k + 1, by omega, by go_num⟩
      case measure => simp [intOf]; omega
    · obtain rfl : k = n := by omega
      go_wp2
      go_ret
      exact ⟨rfl, rfl⟩
theorem contains_none (g n : Nat) (w : World) (h : BlkB w g (List.replicate n true)) (hn : n ≤ 100) : Calls Try.prog 19 #[.slice (some ⟨g, 0, none⟩) n n, .bool false] w fun e w' => e = .returned (.bool false) ∧ w = w' := by
  have H := Lib.hid (index_none g n w h hn)
  clear h
  go_enter Try.func19, Try.ntmps19
  go_wp2_with fail
  refine H.out.mono ?_
  rintro e w' ⟨rfl, rfl⟩
  go_wp2_with fail
  go_ret
  exact ⟨rfl, rfl⟩
theorem blocksN_nat {n v p : Nat} (hn : 1 ≤ n) : blocksN (n : Int) (v : Int) (p : Int) = (((n - 1) / min v p + 1 : Nat) : Int) := by
  unfold blocksN
  have e : (if (p : Int) < (v : Int) then (p : Int) else (v : Int)) = ((min v p : Nat) : Int) := by
    split <;> omega
  rw [e, Int.natCast_add, Int.natCast_ediv, Int.natCast_sub hn]
  rfl
theorem Stop.some {L : List Bool} {s m : Nat} {v p : Int} (h : Stop L s v p m) (hL : 0 < L.length) (hv : 1 ≤ v) (hp : 1 ≤ p) : 0 < m := by
  rcases Nat.eq_zero_or_pos m with h0 | h0
  · subst h0
    have h1 := h.1
    have h2 : (paidN L s 0).length = 0 := rfl
    omega
  · exact h0
end Go.Proofs.Ytokkdeoimhibpaa
