/- Spread. -/
import Derived.Test.YthhfpkhmhhcaiaaRow
import Derived.Test.YthhfpkhmhhcaiaaNum
namespace Go.Proofs.Ythhfpkhmhhcaiaa
open Go Go.RowKit
set_option linter.unusedVariables false
set_option linter.unusedSimpArgs false

theorem spread_none (a d : Int) (w : World) (h0 : 0 ≤ a) (h1 : a ≤ 18446744073709551615) (h2 : 0 ≤ d) (h3 : d ≤ 18446744073709551615) (h4 : epOk a d = false ∨ 4096 < epQ a d) :
    Calls Try.prog 14 #[.int .u64 a, .int .u64 d] w fun e w' => e = .returned (.tuple #[.slice none 0 0, .bool false]) ∧ w = w' := by
  have H := Lib.hid (fun w => epochs_any a d w h0 h1 h2 h3)
  clear h0 h1 h2 h3
  generalize epQ a d = q at *
  generalize epOk a d = b at *
  cases b
  · go_enter Try.func14, Try.ntmps14
    go_wp2_with fail
    refine (H.out _).mono ?_
    rintro e w' ⟨rfl, rfl⟩
    go_wp2
    go_ret2
    exact ⟨rfl, rfl⟩
  · have h5 : 4096 < q := by rcases h4 with h | h; cases h; exact h
    clear h4
    go_enter Try.func14, Try.ntmps14
    go_wp2_with fail
    refine (H.out _).mono ?_
    rintro e w' ⟨rfl, rfl⟩
    go_wp2
    go_ret2
    exact ⟨rfl, rfl⟩

def SpreadPost (w : World) (a d : Int) (n : Nat) (e : Ending) (w' : World) : Prop :=
  ∃ g, e = .returned (.tuple #[.slice (some ⟨g, 0, none⟩) n n, .bool true]) ∧ w.heap.size ≤ g ∧ BlkU w' g (sprL a d n n) ∧ Below w.heap.size w w'

set_option maxHeartbeats 800000 in
theorem spread_any (a d : Int) (n : Nat) (w : World) (h0 : 0 ≤ a) (h1 : a ≤ 18446744073709551615) (h2 : 0 ≤ d) (h3 : d ≤ 18446744073709551615) (h4 : epOk a d = true) (h5 : epQ a d = (n : Int)) (h6 : n ≤ 4096) :
    Calls Try.prog 14 #[.int .u64 a, .int .u64 d] w (SpreadPost w a d n) := by
  have H := Lib.hid (fun w => epochs_any a d w h0 h1 h2 h3)
  rw [h4, h5] at H
  clear h4 h5
  have hmk := fun w => run_make_amounts n (by omega) w
  have HB : Hid (BlkU (w.alloc (.cells (cellsU (List.replicate n 0)) 22)) w.heap.size (sprL a d n 0)) := Lib.hid (by rw [sprL_zero]; exact Blk.new _ _ _)
  have HW : Hid (Below w.heap.size w (w.alloc (.cells (cellsU (List.replicate n 0)) 22))) := Lib.hid ((Below.refl _ _).alloc (Nat.le_refl _) _)
  go_enter Try.func14, Try.ntmps14
  go_wp2_with fail
  refine (H.out _).mono ?_
  rintro e w' ⟨rfl, rfl⟩
  go_wp2
  clear hmk H
  generalize hz : w.heap.size = z at *
  have HZ := Lib.hid hz
  clear hz
  go_loopw [0, 26] (fun s0 s26 wr => ∃ (k : Nat) (r : Int), k ≤ n ∧ s26 = .int .i64 k ∧ s0 = .int .u64 r ∧ Hid (r = rst a d k) ∧ Hid (BlkU wr z (sprL a d n k)) ∧ Hid (Below z w wr)) (fun _ s26 _ => n - (intOf s26).toNat)
  case atStart => exact ⟨0, a, by omega, rfl, rfl, Lib.hid rfl, HB, HW⟩
  case round =>
    obtain ⟨k, r, hk, rfl, rfl, HR, HBK, HWK⟩ := hrel
    clear HB HW
    by_cases hlt : k < n
    · have r0 : 0 ≤ r := by rw [HR.out]; exact rst_nonneg h0 k
      have r1 : r ≤ a := by rw [HR.out]; exact rst_le h0 h2 k
      have hf := HBK.out.frozen k
      have hc := HBK.out.cell (i := k) (by rw [sprL_len]; exact hlt)
      obtain ⟨v, hv⟩ : ∃ v, (sprL a d n k).getD k 0 = v := ⟨_, rfl⟩
      rw [hv] at hc
      clear hv
      by_cases hrd : r ≤ d
      · have HB2 : Hid (BlkU (wr.setCell ⟨z, k, none⟩ (.int .u64 r)) z (sprL a d n (k + 1))) := Lib.hid (by
          have := HBK.out.set k (wt (rst a d k) d)
          rw [sprL_set hlt] at this
          rw [← HR.out, show wt r d = r by unfold wt; rw [if_pos hrd]] at this
          exact this)
        have HR2 : Hid (0 = rst a d (k + 1)) := Lib.hid (by simp only [rst]; rw [← HR.out]; unfold wt; rw [if_pos hrd]; omega)
        have HW2 : Hid (Below z w (wr.setCell ⟨z, k, none⟩ (.int .u64 r))) := Lib.hid (HWK.out.setCell (by simp) _)
        clear HBK HWK HR
        go_wp2
        go_roundw
        case rel => exact ⟨k + 1, _, by omega, by go_num, rfl, HR2, HB2, HW2⟩
        case measure => simp [intOf]; omega
      · have HB2 : Hid (BlkU (wr.setCell ⟨z, k, none⟩ (.int .u64 d)) z (sprL a d n (k + 1))) := Lib.hid (by
          have := HBK.out.set k (wt (rst a d k) d)
          rw [sprL_set hlt] at this
          rw [← HR.out, show wt r d = d by unfold wt; rw [if_neg hrd]] at this
          exact this)
        have HR2 : Hid (r - d = rst a d (k + 1)) := Lib.hid (by simp only [rst]; rw [← HR.out]; unfold wt; rw [if_neg hrd])
        have HW2 : Hid (Below z w (wr.setCell ⟨z, k, none⟩ (.int .u64 d))) := Lib.hid (HWK.out.setCell (by simp) _)
        clear HBK HWK HR
        go_wp2
        go_roundw
        case rel => exact ⟨k + 1, _, by omega, by go_num, rfl, HR2, HB2, HW2⟩
        case measure => simp [intOf]; omega
    · obtain rfl : k = n := by omega
      clear hlt
      have hlt : ¬ k < k := by omega
      go_wp2
      go_ret2
      exact ⟨z, rfl, by rw [HZ.out]; exact Nat.le_refl _, HBK.out, by rw [HZ.out]; exact HWK.out⟩
end Go.Proofs.Ythhfpkhmhhcaiaa
