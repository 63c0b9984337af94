/- The walk of ClockAdds. -/
import Derived.Test.YtnlfnglhkpmdnaaClock
import Derived.Test.YtnlfnglhkpmdnaaLater
namespace Go.Proofs.Ytnlfnglhkpmdnaa
open Go.RowKit Go.OpenShut
set_option linter.unusedVariables false
theorem later_both (e : Int) (a : Option Addr) (len cap : Nat) (z : List Int) (w : World) (hr : IsRow .i64 w a len cap z) (hlen : len ≤ 9223372036854775807) :
    (Calls Try.prog 18 #[.int .i64 e, .slice a len cap] w fun o w' => o = .returned (laterIs (laterTo e z len)) ∧ w = w') ∧
    (Calls Try.prog 19 #[.int .i64 e, .slice a len cap] w fun o w' => o = .returned (laterIs (laterTo e z len)) ∧ ∃ m, w' = w.drewN m) := by
  by_cases h : 0 ≤ e ∧ e ≤ 1099511627776
  · have hc : 0 < len → ∃ b off, a = some ⟨b, off, none⟩ ∧ ∀ i, i < len → w.cell? ⟨b, off + i, none⟩ = some (.int .i64 (z.getD i 0)) := fun h0 => by
      obtain ⟨b, off, ha, _, _, hi⟩ := row_cells hr h0
      exact ⟨b, off, ha, fun i hl => (hi i hl).1⟩
    have hz : ∀ i, i < len → -9223372036854775808 ≤ z.getD i 0 ∧ z.getD i 0 ≤ 9223372036854775807 := fun i hl => by
      obtain ⟨b, off, ha, _, _, hi⟩ := row_cells hr (by omega)
      exact bounds_i64 (hi i hl).2
    exact ⟨later_any e a len cap z w h.1 h.2 hlen hz hc, refLater_any e a len cap z w h.1 h.2 hlen hz hc⟩
  · have hn : laterTo e z len = none := by
      have := laterTo_none (e := e) (z := z) (k := 0) (if_neg h) len
      rwa [Nat.zero_add] at this
    rw [hn]
    exact ⟨later_out e a len cap w (by omega), (refLater_out e a len cap w (by omega)).mono fun _ _ h => ⟨h.1, 0, h.2.symm⟩⟩
theorem walk_ClockAdds (a0 : Int) (a1 : Option Addr) (len1 cap1 : Nat) (z1 : List Int) (w : World) (w0 : (Lit.int .i64 a0).wf = true) (w1 : IsRow .i64 w a1 len1 cap1 z1) :
    Calls Try.prog 6 #[.int .i64 a0, .slice a1 len1 cap1] w fun e w' => e = .returned (.bool true) ∧ Below w.heap.size w w' := by
  clear w0
  by_cases hbig : (1000 : Int) < len1
  · clear w1
    go_enter Try.func6, Try.ntmps6
    go_wp2_with fail
    refine (alive_any _).mono ?_
    rintro e w3 ⟨rfl, hb3⟩
    go_wp2_with fail
    go_ret
    exact ⟨rfl, hb3⟩
  · obtain ⟨h1, h2⟩ := later_both a0 a1 len1 cap1 z1 w w1 (by omega)
    clear w1
    generalize laterTo a0 z1 len1 = o at h1 h2
    rcases o with _ | s
    · have H1 : Hid (Calls Try.prog 18 #[.int .i64 a0, .slice a1 len1 cap1] w fun o w' => o = .returned (.tuple #[.int .i64 0, .bool false]) ∧ w = w') := Lib.hid h1
      have H2 : Hid (Calls Try.prog 19 #[.int .i64 a0, .slice a1 len1 cap1] w fun o w' => o = .returned (.tuple #[.int .i64 0, .bool false]) ∧ ∃ m, w' = w.drewN m) := Lib.hid h2
      clear h1 h2
      go_enter Try.func6, Try.ntmps6
      go_wp2_with fail
      refine H1.out.mono ?_
      rintro e w' ⟨rfl, rfl⟩
      go_wp2_with fail
      refine H2.out.mono ?_
      rintro e w' ⟨rfl, m, rfl⟩
      go_wp2_with fail
      refine (alive_any _).mono ?_
      rintro e w3 ⟨rfl, hb3⟩
      go_wp2_with fail
      go_ret
      exact ⟨rfl, (below_drewN (Below.refl _ _) m).trans hb3⟩
    · have H1 : Hid (Calls Try.prog 18 #[.int .i64 a0, .slice a1 len1 cap1] w fun o w' => o = .returned (.tuple #[.int .i64 s, .bool true]) ∧ w = w') := Lib.hid h1
      have H2 : Hid (Calls Try.prog 19 #[.int .i64 a0, .slice a1 len1 cap1] w fun o w' => o = .returned (.tuple #[.int .i64 s, .bool true]) ∧ ∃ m, w' = w.drewN m) := Lib.hid h2
      clear h1 h2
      go_enter Try.func6, Try.ntmps6
      go_wp2_with fail
      refine H1.out.mono ?_
      rintro e w' ⟨rfl, rfl⟩
      go_wp2_with fail
      refine H2.out.mono ?_
      rintro e w' ⟨rfl, m, rfl⟩
      go_wp2_with fail
      refine (alive_any _).mono ?_
      rintro e w3 ⟨rfl, hb3⟩
      go_wp2_with fail
      go_ret
      exact ⟨rfl, (below_drewN (Below.refl _ _) m).trans hb3⟩
end Go.Proofs.Ytnlfnglhkpmdnaa
