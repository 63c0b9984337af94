/- The walk of LanesPlay. -/
import Derived.Test.YtlmjhggnecmggaaSame2
import Derived.Test.YtlmjhggnecmggaaOpen
import Derived.OpenShut
namespace Go.Proofs.Ytlmjhggnecmggaa
open Go Go.RowKit Go.OpenShut
set_option linter.unusedVariables false
set_option linter.unusedSimpArgs false

set_option maxHeartbeats 800000 in
theorem walk_LanesPlay (a0 : Int) (a1 : Option Addr) (len1 cap1 : Nat) (w : World) (w0 : (Lit.int .i64 a0).wf = true) (w1 : IsOps w a1 len1 cap1) :
    Calls Try.prog 3 #[.int .i64 a0, .slice a1 len1 cap1] w fun e w' => e = .returned (.bool true) ∧ Below w.heap.size w w' := by
  have W1 := Lib.hid w1
  have hl1 : len1 ≤ 9223372036854775807 := by have := w1.1; have := w1.2.1; unfold maxLen at this; omega
  clear w0 w1
  by_cases hs : a0 < 1
  · have HN := Lib.hid (fun w => new_none a0 w (.inl hs))
    go_enter Try.func3, Try.ntmps3
    go_wp2_with fail
    refine (HN.out _).mono ?_
    rintro e w' ⟨rfl, rfl⟩
    go_wp2_with fail
    refine (alive_any _).mono ?_
    rintro e w2 ⟨rfl, hb⟩
    have HB := Lib.hid hb
    clear hb HN
    go_wp2_with fail
    go_ret
    exact ⟨rfl, HB.out⟩
  · by_cases hb : 4096 < a0
    · have HN := Lib.hid (fun w => new_none a0 w (.inr hb))
      go_enter Try.func3, Try.ntmps3
      go_wp2_with fail
      refine (HN.out _).mono ?_
      rintro e w' ⟨rfl, rfl⟩
      go_wp2_with fail
      refine (alive_any _).mono ?_
      rintro e w2 ⟨rfl, hb⟩
      have HB := Lib.hid hb
      clear hb HN
      go_wp2_with fail
      go_ret
      exact ⟨rfl, HB.out⟩
    · obtain ⟨n, rfl, hn1, hn2⟩ : ∃ n : Nat, a0 = n ∧ 1 ≤ n ∧ n ≤ 4096 := ⟨a0.toNat, by omega, by omega, by omega⟩
      have HN := Lib.hid (fun w => Own.new n w hn1 (by omega))
      have H4 : Hid (n ≤ 4096) := Lib.hid hn2
      go_enter Try.func3, Try.ntmps3
      go_wp2_with fail
      refine (HN.out _).mono ?_
      rintro e w1 ⟨rfl, S1, O1⟩
      clear HN
      by_cases h100 : (100 : Int) < (len1 : Int)
      · go_wp2_with fail
        refine (alive_any _).mono ?_
        rintro e w2 ⟨rfl, hb⟩
        have HB := Lib.hid (O1.out.below hb).2.2
        clear hb O1
        go_wp2_with fail
        go_ret
        exact ⟨rfl, HB.out⟩
      · have BO : Hid (Both w (w1.alloc (.cells #[.slice none 0 0, .slice none 0 0, .int .i64 n] 29)) w.heap.size w1.heap.size S1 n [] []) := Lib.hid ⟨O1.out.alloc _, refAt_new w1 S1 n H4.out, fun e => Nat.lt_irrefl _ (O1.out.1.lt _ e), O1.out.2.2.size⟩
        clear O1
        go_wp2_with fail
        generalize w1.alloc (.cells #[.slice none 0 0, .slice none 0 0, .int .i64 n] 29) = w2 at *
        generalize w1.heap.size = d at *
        go_loopw [33] (fun s33 wr => ∃ (k : Nat) (F V : List Int) (S : Nat → Prop), k ≤ len1 ∧ s33 = .int .i64 k ∧ Hid (Both w wr w.heap.size d S n F V)) (fun s33 _ => len1 - (intOf s33).toNat)
        case atStart => exact ⟨0, [], [], S1, by omega, rfl, BO⟩
        case round =>
          clear BO
          obtain ⟨k, F, V, S, hk, rfl, H⟩ := hrel
          by_cases hlt : k < len1
          · obtain ⟨lb, lo, p, c, x, rfl, y0, y1, y2⟩ := W1.out.at H.out.1.2.2 hlt
            have H2 := Lib.hid (H.out.alloc (.cells #[.bool p, .int .i64 c, .int .i64 x] 31))
            have E0 : (wr.alloc (.cells #[.bool p, .int .i64 c, .int .i64 x] 31)).cell? ⟨wr.heap.size, 0, none⟩ = some (.bool p) := (Blk.new wr 31 #[.bool p, .int .i64 c, .int .i64 x]).cell 0
            have E1 : (wr.alloc (.cells #[.bool p, .int .i64 c, .int .i64 x] 31)).cell? ⟨wr.heap.size, 1, none⟩ = some (.int .i64 c) := (Blk.new wr 31 #[.bool p, .int .i64 c, .int .i64 x]).cell 1
            have E2 : (wr.alloc (.cells #[.bool p, .int .i64 c, .int .i64 x] 31)).cell? ⟨wr.heap.size, 2, none⟩ = some (.int .i64 x) := (Blk.new wr 31 #[.bool p, .int .i64 c, .int .i64 x]).cell 2
            clear H
            go_wp2_with fail
            refine (do_any p c x H2.out).mono ?_
            rintro e w3 ⟨rfl, F', V', S', H3⟩
            clear H2 E0 E1 E2 y0 y1 y2
            go_wp2_with fail
            refine (same_any H3.out).mono ?_
            rintro e w4 ⟨rfl, hb⟩
            have H4 := Lib.hid (H3.out.below hb)
            clear hb H3
            go_wp2_with fail
            go_roundw
            case rel => exact ⟨k + 1, F', V', S', by omega, by go_num, H4⟩
            case measure => simp [intOf]; omega
          · obtain rfl : k = len1 := by omega
            clear hlt
            have hlt : ¬ k < k := by omega
            go_wp2_with fail
            refine (alive_any _).mono ?_
            rintro e w2 ⟨rfl, hb⟩
            have HB := Lib.hid (H.out.1.below hb).2.2
            clear hb H
            go_wp2_with fail
            go_ret
            exact ⟨rfl, HB.out⟩
end Go.Proofs.Ytlmjhggnecmggaa
