/- slices.Equal on two rows of amounts; the examples of the chapter. -/
import Derived.Test.YthhfpkhmhhcaiaaSpread
namespace Go.Proofs.Ythhfpkhmhhcaiaa
open Go Go.RowKit
set_option linter.unusedVariables false
set_option linter.unusedSimpArgs false

/-- Two rows that read alike. -/
theorem equal_rows (g1 g2 c1 c2 n : Nat) (L : List Int) (w : World) (h1 : BlkU w g1 L) (h2 : BlkU w g2 L) (hn : L.length = n) (hb : n ≤ 100000) :
    Calls Try.prog 18 #[.slice (some ⟨g1, 0, none⟩) n c1, .slice (some ⟨g2, 0, none⟩) n c2] w fun e w' => e = .returned (.bool true) ∧ ∃ q, w' = w.drewN q := by
  have H1 := Lib.hid h1
  have H2 := Lib.hid h2
  have HN := Lib.hid hn
  clear h1 h2 hn
  go_enter Try.func18, Try.ntmps18
  go_wp2
  go_loopw [13] (fun s13 wr => ∃ (k q : Nat), k ≤ n ∧ s13 = .int .i64 k ∧ wr = w.drewN q) (fun s13 _ => n - (intOf s13).toNat)
  case atStart => exact ⟨0, 0, by omega, rfl, rfl⟩
  case round =>
    obtain ⟨k, q, hk, rfl, rfl⟩ := hrel
    by_cases hlt : k < n
    · have x1 := H1.out.cell (i := k) (by rw [HN.out]; exact hlt)
      have x2 := H2.out.cell (i := k) (by rw [HN.out]; exact hlt)
      obtain ⟨v, hv⟩ : ∃ v, L.getD k 0 = v := ⟨_, rfl⟩
      rw [hv] at x1 x2
      clear hv
      go_wp2
      go_quiet (fail)
      go_wp2
      go_roundw
      case rel => exact ⟨k + 1, _, by omega, by go_num, rfl⟩
      case measure => simp [intOf]; omega
    · obtain rfl : k = n := by omega
      clear hlt
      have hlt : ¬ k < k := by omega
      go_wp2
      go_ret
      exact ⟨rfl, q, rfl⟩
theorem alive_any (w : World) : Calls Try.prog 10 #[] w fun e w' => e = .returned (.bool true) ∧ Below w.heap.size w w' := by
  have hs : ∀ w, Calls Try.prog 14 #[.int .u64 70, .int .u64 32] w fun e w' => ∃ g, e = .returned (.tuple #[.slice (some ⟨g, 0, none⟩) 3 3, .bool true]) ∧ Hid (BlkU w' g [32, 32, 6]) ∧ Hid (Below w.heap.size w w') := fun w =>
    (spread_any 70 32 3 w (by decide) (by decide) (by decide) (by decide) (by decide +kernel) (by decide +kernel) (by decide)).mono fun _ _ ⟨g, h1, _, h3, h4⟩ => ⟨g, h1, Lib.hid (by rw [show sprL 70 32 3 3 = [32, 32, 6] by decide +kernel] at h3; exact h3), Lib.hid h4⟩
  have h1 : ∀ w, Calls Try.prog 9 #[.int .u64 1000, .int .u64 32, .int .u64 4] w fun e w' => e = .returned (.int .u64 250) ∧ w = w' := fun w => by
    have := churn_any 1000 32 4 w (by decide) (by decide) (by decide) (by decide)
    rwa [show churnQ 1000 32 4 = 250 by decide +kernel] at this
  have h2 : ∀ w, Calls Try.prog 9 #[.int .u64 100, .int .u64 32, .int .u64 4] w fun e w' => e = .returned (.int .u64 32) ∧ w = w' := fun w => by
    have := churn_any 100 32 4 w (by decide) (by decide) (by decide) (by decide)
    rwa [show churnQ 100 32 4 = 32 by decide +kernel] at this
  have HS := Lib.hid hs
  have H1 := Lib.hid h1
  have H2 := Lib.hid h2
  clear hs h1 h2
  go_enter Try.func10, Try.ntmps10
  go_wp2_with fail
  refine (HS.out _).mono ?_
  rintro e w1 ⟨g, rfl, HG, HB⟩
  go_wp2_with fail
  refine (H1.out _).mono ?_
  rintro e w' ⟨rfl, rfl⟩
  go_wp2_with fail
  refine (H2.out _).mono ?_
  rintro e w' ⟨rfl, rfl⟩
  have G2 : Hid (BlkU (w1.alloc (.cells #[.int .u64 32, .int .u64 32, .int .u64 6] 22)) g [32, 32, 6]) := Lib.hid (Blk.alloc HG.out _)
  have L2 : Hid (BlkU (w1.alloc (.cells #[.int .u64 32, .int .u64 32, .int .u64 6] 22)) w1.heap.size [32, 32, 6]) := Lib.hid (Blk.new w1 _ _)
  have B2 : Hid (Below w.heap.size w (w1.alloc (.cells #[.int .u64 32, .int .u64 32, .int .u64 6] 22))) := Lib.hid (HB.out.alloc HB.out.size _)
  clear HG HB
  go_wp2_with fail
  refine (equal_rows _ _ _ _ 3 [32, 32, 6] _ G2.out L2.out rfl (by decide)).mono ?_
  rintro e w3 ⟨rfl, q, rfl⟩
  go_wp2_with fail
  go_ret
  exact ⟨rfl, below_drewN B2.out q⟩
end Go.Proofs.Ythhfpkhmhhcaiaa
