/- The walk of MeterSpends. -/
import Derived.Test.YtbebmdbhoombgaaLive
import Derived.Test.YtbebmdbhoombgaaRd
import Derived.OpenShut
namespace Go.Proofs.Ytbebmdbhoombgaa
open Go Go.RowKit Go.OpenShut
set_option linter.unusedVariables false
set_option linter.unusedSimpArgs false
theorem walk_MeterSpends (a0 : Int) (a1 : Int) (a2 : Option Addr) (len2 cap2 : Nat) (z2 : List Int) (w : World) (w0 : (Lit.int .u64 a0).wf = true) (w1 : (Lit.int .u64 a1).wf = true) (w2 : IsRow .u64 w a2 len2 cap2 z2) :
    Calls Try.prog 7 #[.int .u64 a0, .int .u64 a1, .slice a2 len2 cap2] w fun e w' => e = .returned (.bool true) ∧ Below w.heap.size w w' := by
  obtain ⟨x0, x1⟩ := bounds_u64 w0
  obtain ⟨y0, y1⟩ := bounds_u64 w1
  obtain ⟨_, hl, _, _⟩ := w2.len_le
  have R := Lib.hid (Rd.of_row w2)
  clear w0 w1 w2
  by_cases h300 : (300 : Int) < (len2 : Int)
  · go_enter Try.func7, Try.ntmps7
    go_wp2_with fail
    refine (alive_any _).mono ?_
    rintro e w1 ⟨rfl, hb⟩
    have HB := Lib.hid hb
    clear hb
    go_wp2_with fail
    go_ret
    exact ⟨rfl, HB.out⟩
  · go_enter Try.func7, Try.ntmps7
    go_wp2_with fail
    refine (Own.new _).mono ?_
    rintro e w1 ⟨rfl, O1, _, _⟩
    go_wp2_with fail
    refine (O1.out.grants x0).mono ?_
    rintro e w2 ⟨M1, rfl, O2, _⟩
    clear O1
    go_wp2_with fail
    refine (O2.out.grants y0).mono ?_
    rintro e w3 ⟨M, rfl, O3, _⟩
    clear O2
    have HM : Hid (0 ≤ M ∧ M ≤ 18446744073709551615) := Lib.hid (by have := O3.out.2.2.2; unfold Fits at this; omega)
    obtain ⟨M0, M1'⟩ := HM.out
    go_wp2_with fail
    go_loopw [26] (fun s26 wr => ∃ (k : Nat) (B S T : Int), k ≤ len2 ∧ s26 = .int .i64 k ∧ Hid (Own w wr w.heap.size B S T 0 ∧ S + B = M)) (fun s26 _ => len2 - (intOf s26).toNat)
    case atStart => exact ⟨0, M, 0, 0, by omega, rfl, Lib.hid ⟨O3.out, by omega⟩⟩
    case round =>
      obtain ⟨k, B, S, T, hk, rfl, H⟩ := hrel
      by_cases hlt : k < len2
      · obtain ⟨g, off, rfl, hg, hc⟩ := Rd.below R.out H.out.1.2.2.1 (by omega)
        have hcell := (hc k hlt).1
        obtain ⟨u0, u1⟩ := bounds_u64 (hc k hlt).2
        clear hc hg
        generalize z2.getD k 0 = x at *
        have key : ∃ (r : Bool) (B' S' T' : Int), S' + B' = M ∧ Calls Try.prog 15 #[.pointer (some ⟨w.heap.size, 0, none⟩), .int .u64 x] wr fun e w' => e = .returned (.bool r) ∧ Hid (Own w w' w.heap.size B' S' T' 0) := by
          by_cases h : x ≤ B
          · obtain ⟨T', hT, hN, hG, hb⟩ := take_eq H.out.1.2.2.2 u0 h
            exact ⟨true, B - x, S + x, T', by have := H.out.2; omega, (take_yes w.heap.size B S T 0 T' x wr H.out.1.1 H.out.1.2.2.2 h hT hG hb).mono fun _ _ ⟨he, h1, h2⟩ => ⟨he, Lib.hid ⟨h1, H.out.1.2.1, below_only H.out.1.2.2.1 h2 H.out.1.2.2.1.size H.out.1.2.1, hN⟩⟩⟩
          · exact ⟨false, B, S, T, H.out.2, (H.out.1.refuse (by omega)).mono fun _ _ ⟨he, h1, _⟩ => ⟨he, h1⟩⟩
        obtain ⟨r, B', S', T', hsum, hcall⟩ := key
        have HC := Lib.hid hcall
        have HS := Lib.hid hsum
        clear hcall hsum H
        go_wp2_with fail
        refine HC.out.mono ?_
        rintro e w4 ⟨rfl, O4⟩
        have hF := O4.out.2.2.2
        have s0 : 0 ≤ S' := hF.2.1
        have s1 : S' ≤ M := by have := hF.1; have := HS.out; omega
        have hsb : S' + B' = M := HS.out
        have hno : ¬ M < S' := by omega
        have hB0 : 0 ≤ B' := hF.1
        clear hF HC HS
        go_wp2_with fail
        refine O4.out.spent.mono ?_
        rintro e w5 ⟨rfl, O5, _⟩
        clear O4
        go_wp2_with fail
        refine O5.out.spent.mono ?_
        rintro e w6 ⟨rfl, O6, _⟩
        clear O5
        go_wp2_with fail
        refine O6.out.balance.mono ?_
        rintro e w7 ⟨rfl, O7, _⟩
        clear O6
        go_wp2_with fail
        go_roundw
        case rel => exact ⟨k + 1, B', S', T', by omega, by go_num, Lib.hid ⟨O7.out, hsb⟩⟩
        case measure => simp [intOf]; omega
      · obtain rfl : k = len2 := by omega
        clear hlt
        have hlt : ¬ k < k := by omega
        have HO := Lib.hid H.out.1
        have HS := Lib.hid H.out.2
        have HBF : Hid (0 ≤ B ∧ B ≤ 18446744073709551615) := Lib.hid (by have := H.out.1.2.2.2; unfold Fits at this; omega)
        clear H
        go_wp2_with fail
        refine (alive_any _).mono ?_
        rintro e w4 ⟨rfl, b4⟩
        have O4 := Lib.hid (HO.out.below b4)
        clear b4 HO
        go_wp2_with fail
        refine O4.out.drop.mono ?_
        rintro e w5 ⟨rfl, D', O5, _⟩
        clear O4
        go_wp2_with fail
        refine O5.out.spent.mono ?_
        rintro e w6 ⟨rfl, O6, _⟩
        clear O5
        have hF := O6.out.2.2.2
        have s0 : 0 ≤ S := hF.2.1
        have hw : IntKind.u64.wrap (M - S) = B := by rw [← HS.out, Int.add_comm S B, Int.add_sub_cancel]; exact IntWalk.u64_in _ (by have := HBF.out; omega)
        go_wp2_with fail
        refine O6.out.balance.mono ?_
        rintro e w7 ⟨rfl, O7, _⟩
        clear O6
        go_wp2_with fail
        go_ret
        exact ⟨rfl, O7.out.2.2.1⟩
end Go.Proofs.Ytbebmdbhoombgaa
