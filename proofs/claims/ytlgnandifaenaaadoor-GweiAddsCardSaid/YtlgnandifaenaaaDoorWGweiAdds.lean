/- The walk of GweiAdds. -/
import Derived.Test.YtlgnandifaenaaaDoorAdd
namespace Go.Proofs.YtlgnandifaenaaaDoor
open Go.RowKit Go.OpenShut
set_option linter.unusedVariables false
theorem zero_sum (z : List Int) : addOk z 0 = true ∧ addQ z 0 = 0 := by
  have e : sumTo z 0 = 0 := rfl
  have := add_yes (z := z) (n := 0) (by rw [e]; decide)
  rw [e] at this
  exact this
theorem add_gen {a : Option Addr} {len cap : Nat} {z : List Int} {w : World} (h : IsRow .u64 w a len cap z) :
    (Calls Tryd.prog 10 #[.slice a len cap] w fun e w' => e = .returned (.tuple #[.int .u64 (addQ z len), .bool (addOk z len)]) ∧ w = w') ∧
    (Calls Tryd.prog 12 #[.slice a len cap] w fun e w' => e = .returned (.tuple #[.int .u64 (addQ z len), .bool (addOk z len)]) ∧ ∃ n, w' = w.drewN n) := by
  by_cases h0 : len = 0
  · subst h0
    rw [(zero_sum z).1, (zero_sum z).2]
    exact ⟨add_none a cap w, (refadd_none a cap w).mono fun e w' h => ⟨h.1, 0, h.2.symm⟩⟩
  · rcases h with ⟨_, h1, _⟩ | ⟨x, rfl, hl, hm, hz, hc, hwz⟩
    · exact absurd h1 h0
    · obtain ⟨b, off, spot⟩ := x
      have hc0 := hc 0 (by omega)
      have hspot : spot = none := by simpa [Addr.add] using World.cell?_spot hc0
      subst hspot
      have hcell : ∀ i, i < len → w.cell? ⟨b, off + i, none⟩ = some (.int .u64 (z.getD i 0)) := fun i hi => by
        have := hc i (by omega)
        rwa [Lib.add_plain] at this
      have hb : ∀ i, 0 ≤ z.getD i 0 ∧ z.getD i 0 ≤ 18446744073709551615 := fun i => by
        by_cases hi : i < z.length
        · have : z.getD i 0 ∈ z := by rw [List.getD_eq_getElem?_getD, List.getElem?_eq_getElem hi]; simp
          exact bounds_u64 (hwz _ this)
        · rw [List.getD_eq_getElem?_getD, List.getElem?_eq_none (by omega)]; simp
      have hlen : len ≤ 9223372036854775807 := by unfold maxLen at hm; omega
      exact ⟨add_row b off len cap z w hlen hcell hb, refadd_row b off len cap z w hlen hcell hb⟩
theorem walk_GweiAdds (a0 : Option Addr) (len0 cap0 : Nat) (z0 : List Int) (w : World) (w0 : IsRow .u64 w a0 len0 cap0 z0) (hL : laidMetH Tryd.prog Rows.gweiAddsRow.laid w) :
    Calls Tryd.prog 3 #[.slice a0 len0 cap0] w fun e w' => e = .returned (.bool true) ∧ Below w.heap.size w w' := by
  have HT := Lib.hid (pow_of_laid hL)
  obtain ⟨h1, h2⟩ := add_gen w0
  clear hL w0
  by_cases hbig : (1000 : Int) < len0
  · clear h1 h2
    go_enter Tryd.func3, Tryd.ntmps3
    go_wp2_with fail
    refine (alive_any _ HT.out).mono ?_
    rintro e w3 ⟨rfl, hb3⟩
    go_wp2_with fail
    go_ret
    exact ⟨rfl, hb3⟩
  · have h3 := saturate_any a0 len0 cap0 _ _ w h1
    by_cases hfit : sumTo z0 len0 ≤ 18446744073709551615
    · rw [(add_yes hfit).1] at h1 h2 h3
      rw [(add_yes hfit).2] at h1 h2 h3
      generalize sumTo z0 len0 = q at *
      have H1 := Lib.hid h1
      have H2 := Lib.hid h2
      have H3 : Hid (Calls Tryd.prog 11 #[.slice a0 len0 cap0] w fun e w' => e = .returned (.tuple #[.int .u64 q, .bool false]) ∧ w = w') := Lib.hid h3
      clear h1 h2 h3 hfit
      go_enter Tryd.func3, Tryd.ntmps3
      go_wp2_with fail
      refine H1.out.mono ?_
      rintro e w' ⟨rfl, rfl⟩
      go_wp2_with fail
      refine H3.out.mono ?_
      rintro e w' ⟨rfl, rfl⟩
      go_wp2_with fail
      refine H2.out.mono ?_
      rintro e w' ⟨rfl, n, rfl⟩
      go_wp2_with fail
      refine (alive_any _ (powTab_below HT.out (below_drewN (Below.refl _ _) n))).mono ?_
      rintro e w3 ⟨rfl, hb3⟩
      go_wp2_with fail
      go_ret
      exact ⟨rfl, (below_drewN (Below.refl _ _) n).trans hb3⟩
    · rw [(add_not hfit).1] at h1 h2 h3
      rw [(add_not hfit).2] at h1 h2 h3
      have H1 := Lib.hid h1
      have H2 := Lib.hid h2
      have H3 : Hid (Calls Tryd.prog 11 #[.slice a0 len0 cap0] w fun e w' => e = .returned (.tuple #[.int .u64 18446744073709551615, .bool true]) ∧ w = w') := Lib.hid h3
      clear h1 h2 h3 hfit
      go_enter Tryd.func3, Tryd.ntmps3
      go_wp2_with fail
      refine H1.out.mono ?_
      rintro e w' ⟨rfl, rfl⟩
      go_wp2_with fail
      refine H3.out.mono ?_
      rintro e w' ⟨rfl, rfl⟩
      go_wp2_with fail
      refine H2.out.mono ?_
      rintro e w' ⟨rfl, n, rfl⟩
      go_wp2_with fail
      refine (alive_any _ (powTab_below HT.out (below_drewN (Below.refl _ _) n))).mono ?_
      rintro e w3 ⟨rfl, hb3⟩
      go_wp2_with (go_at_call 13; refine (refmax_any _).mono ?_; rintro e w' ⟨rfl, rfl⟩)
      go_ret
      exact ⟨rfl, (below_drewN (Below.refl _ _) n).trans hb3⟩
end Go.Proofs.YtlgnandifaenaaaDoor
