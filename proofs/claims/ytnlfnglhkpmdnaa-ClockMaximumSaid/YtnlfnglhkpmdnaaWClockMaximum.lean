/- The walk of ClockMaximum. -/
import Derived.Test.YtnlfnglhkpmdnaaClock
import Derived.Test.YtnlfnglhkpmdnaaMax
namespace Go.Proofs.Ytnlfnglhkpmdnaa
open Go.RowKit Go.OpenShut
set_option linter.unusedVariables false
theorem walk_ClockMaximum (a0 : Option Addr) (len0 cap0 : Nat) (z0 : List Int) (w : World) (w0 : IsRow .i64 w a0 len0 cap0 z0) :
    Calls Try.prog 7 #[.slice a0 len0 cap0] w fun e w' => e = .returned (.bool true) ∧ Below w.heap.size w w' := by
  by_cases hbig : (1000 : Int) < len0
  · clear w0
    go_enter Try.func7, Try.ntmps7
    go_wp2_with fail
    refine (alive_any _).mono ?_
    rintro e w3 ⟨rfl, hb3⟩
    go_wp2_with fail
    go_ret
    exact ⟨rfl, hb3⟩
  · by_cases h0 : len0 = 0
    · subst h0
      have H1 := Lib.hid (max_none a0 cap0)
      have H2 := Lib.hid (refMax_none a0 cap0)
      clear w0 hbig
      go_enter Try.func7, Try.ntmps7
      go_wp2_with fail
      refine (H1.out _).mono ?_
      rintro e w' ⟨rfl, rfl⟩
      go_wp2_with fail
      go_loop [4, 18] (fun s4 s18 => s4 = .bool true ∧ s18 = .int .i64 0) (fun _ _ => 0)
      case atStart => exact ⟨rfl, rfl⟩
      case round =>
        obtain ⟨rfl, rfl⟩ := hrel
        go_wp2_with fail
        refine (alive_any _).mono ?_
        rintro e w3 ⟨rfl, hb3⟩
        go_wp2_with fail
        refine (H2.out _).mono ?_
        rintro e w' ⟨rfl, rfl⟩
        go_wp2_with fail
        go_ret
        exact ⟨rfl, hb3⟩
    · obtain ⟨b, off, rfl, hb, hlen, hi⟩ := row_cells w0 (by omega)
      have hc : ∀ i, i < len0 → w.cell? ⟨b, off + i, none⟩ = some (.int .i64 (z0.getD i 0)) := fun i hl => (hi i hl).1
      have HC := Lib.hid hc
      have H1 := Lib.hid (max_row b off len0 cap0 z0 w (by omega) hlen hc)
      have H2 := Lib.hid (fun w hc => refMax_row b off len0 cap0 z0 w (by omega) hlen hc)
      have HB := Lib.hid hb
      obtain ⟨j, hj, hm⟩ := maxTo_is z0 (len0 - 1)
      have HM := Lib.hid hm
      have HG := Lib.hid (fun i (h : i < len0) => maxTo_ge z0 (len0 - 1) i (by omega))
      have hl : ((len0 : Int) == 0) = false := by simp; omega
      have hj1 : j < len0 := by omega
      clear w0 hi hc hb hm hj
      generalize maxTo z0 (len0 - 1) = t at *
      go_enter Try.func7, Try.ntmps7
      go_wp2_with fail
      refine H1.out.mono ?_
      rintro e w' ⟨rfl, rfl⟩
      go_wp2_with fail
      go_loop [4, 18] (fun s4 s18 => ∃ (k : Nat) (o : Bool), k ≤ len0 ∧ s18 = .int .i64 k ∧ s4 = .bool o ∧ Hid (j < k → o = true)) (fun _ s18 => len0 - (intOf s18).toNat)
      case atStart => exact ⟨0, false, by omega, rfl, rfl, Lib.hid (fun h => absurd h (by omega))⟩
      case round =>
        obtain ⟨k, o, hk, rfl, rfl, HO⟩ := hrel
        by_cases hlt : k < len0
        · have hcell := HC.out k hlt
          have hy : z0.getD k 0 ≤ t := HG.out k hlt
          cases o
          · by_cases he : z0.getD k 0 = t
            · have HE := Lib.hid he
              have he2 : (z0.getD k 0 == t) = true := by simpa using he
              clear he
              generalize z0.getD k 0 = y at *
              go_wp2
              go_round
              case rel => exact ⟨k + 1, true, by omega, by go_num, rfl, Lib.hid fun _ => rfl⟩
              case measure => simp [intOf]; omega
            · have HE : Hid (j < k + 1 → false = true) := Lib.hid fun h => by
                rcases Nat.lt_or_ge j k with h1 | h1
                · exact HO.out h1
                · obtain rfl : j = k := by omega
                  exact absurd HM.out.symm he
              have he2 : (z0.getD k 0 == t) = false := by simpa using he
              clear he
              generalize z0.getD k 0 = y at *
              go_wp2
              go_round
              case rel => exact ⟨k + 1, false, by omega, by go_num, rfl, HE⟩
              case measure => simp [intOf]; omega
          · generalize z0.getD k 0 = y at *
            go_wp2
            go_round
            case rel => exact ⟨k + 1, true, by omega, by go_num, rfl, Lib.hid fun _ => rfl⟩
            case measure => simp [intOf]; omega
        · obtain rfl : k = len0 := by omega
          obtain rfl : o = true := HO.out hj1
          clear hlt
          have hlt : ¬ k < k := by omega
          go_wp2_with fail
          refine (alive_any _).mono ?_
          rintro e w3 ⟨rfl, hb3⟩
          have HC3 := Lib.hid (fun i h => (hb3.cell (p := ⟨b, off + i, none⟩) HB.out).trans (HC.out i h))
          go_wp2_with fail
          refine (H2.out _ HC3.out).mono ?_
          rintro e w' ⟨rfl, rfl⟩
          go_wp2_with fail
          go_ret
          exact ⟨rfl, hb3⟩
end Go.Proofs.Ytnlfnglhkpmdnaa
