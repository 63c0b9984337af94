/- The walk of LanesForcedFirst. -/
import Derived.Test.YtlmjhggnecmggaaLive
import Derived.Test.YtlmjhggnecmggaaOpen
import Derived.OpenShut
namespace Go.Proofs.Ytlmjhggnecmggaa
open Go Go.RowKit Go.OpenShut
set_option linter.unusedVariables false
set_option linter.unusedSimpArgs false

/-- What Pop answers, told by the two lengths. -/
theorem hd_cases (F V : List Int) : (0 < F.length ∧ hdC F V = 0 ∧ hdB F V = true) ∨ (F.length = 0 ∧ 0 < V.length ∧ hdC F V = 1 ∧ hdB F V = true) ∨ (F.length = 0 ∧ V.length = 0 ∧ hdC F V = 0 ∧ hdB F V = false) := by
  rcases F with _ | ⟨x, F⟩
  · rcases V with _ | ⟨y, V⟩
    · exact .inr (.inr ⟨rfl, rfl, rfl, rfl⟩)
    · exact .inr (.inl ⟨rfl, by simp, rfl, rfl⟩)
  · exact .inl ⟨by simp, rfl, rfl⟩
set_option maxHeartbeats 800000 in
theorem walk_LanesForcedFirst (a0 : Int) (a1 : Option Addr) (len1 cap1 : Nat) (w : World) (w0 : (Lit.int .u8 a0).wf = true) (w1 : IsOps w a1 len1 cap1) :
    Calls Try.prog 4 #[.int .u8 a0, .slice a1 len1 cap1] w fun e w' => e = .returned (.bool true) ∧ Below w.heap.size w w' := by
  obtain ⟨x0, x1⟩ := bounds_u8 w0
  obtain ⟨n, hn, hn1, hn2⟩ : ∃ n : Nat, a0 + 1 = n ∧ 1 ≤ n ∧ n ≤ 256 := ⟨(a0 + 1).toNat, by omega, by omega, by omega⟩
  have W1 := Lib.hid w1
  have hl1 : len1 ≤ 9223372036854775807 := by have := w1.1; have := w1.2.1; unfold maxLen at this; omega
  have HN := Lib.hid (fun w => Own.new n w hn1 (by omega))
  clear w0 w1
  go_enter Try.func4, Try.ntmps4
  go_wp2_with fail
  refine (HN.out _).mono ?_
  rintro e w1 ⟨rfl, S1, O1⟩
  clear HN
  by_cases h100 : (100 : Int) < (len1 : Int)
  · go_wp2_with fail
    refine (alive_any _).mono ?_
    rintro e w2 ⟨rfl, hb⟩
    have HB := Lib.hid (O1.out.below hb).2.2
    clear hb O1
    go_wp2_with fail
    go_ret
    exact ⟨rfl, HB.out⟩
  · go_wp2_with fail
    go_loopw [25] (fun s25 wr => ∃ (k : Nat) (F V : List Int) (S : Nat → Prop), k ≤ len1 ∧ s25 = .int .i64 k ∧ Hid (Own w wr w.heap.size S n F V)) (fun s25 _ => len1 - (intOf s25).toNat)
    case atStart => exact ⟨0, [], [], S1, by omega, rfl, O1⟩
    case round =>
      clear O1
      obtain ⟨k, F, V, S, hk, rfl, O⟩ := hrel
      by_cases hlt : k < len1
      · obtain ⟨lb, lo, p, c, x, rfl, y0, y1, y2⟩ := W1.out.at O.out.2.2 hlt
        have O2 := Lib.hid (O.out.alloc (.cells #[.bool p, .int .i64 c, .int .i64 x] 31))
        have E0 : (wr.alloc (.cells #[.bool p, .int .i64 c, .int .i64 x] 31)).cell? ⟨wr.heap.size, 0, none⟩ = some (.bool p) := (Blk.new wr 31 #[.bool p, .int .i64 c, .int .i64 x]).cell 0
        have E1 : (wr.alloc (.cells #[.bool p, .int .i64 c, .int .i64 x] 31)).cell? ⟨wr.heap.size, 1, none⟩ = some (.int .i64 c) := (Blk.new wr 31 #[.bool p, .int .i64 c, .int .i64 x]).cell 1
        have E2 : (wr.alloc (.cells #[.bool p, .int .i64 c, .int .i64 x] 31)).cell? ⟨wr.heap.size, 2, none⟩ = some (.int .i64 x) := (Blk.new wr 31 #[.bool p, .int .i64 c, .int .i64 x]).cell 2
        clear O
        cases p
        · have HP := Lib.hid (O2.out.push c x)
          go_wp2_with fail
          refine HP.out.mono ?_
          rintro e w3 ⟨rfl, S3, O3, _⟩
          clear HP O2 E0 E1 E2 y0 y1 y2
          go_wp2_with fail
          go_roundw
          case rel => exact ⟨k + 1, _, _, S3, by omega, by go_num, O3⟩
          case measure => simp [intOf]; omega
        · have H0 : Hid (Calls Try.prog 14 #[.pointer (some ⟨w.heap.size, 0, none⟩), .int .i64 0] (wr.alloc (.cells #[.bool true, .int .i64 c, .int .i64 x] 31)) fun e w' => e = .returned (.int .i64 (F.length : Nat)) ∧ (wr.alloc (.cells #[.bool true, .int .i64 c, .int .i64 x] 31)) = w') := Lib.hid (O2.out.len 0)
          have H1 : Hid (Calls Try.prog 14 #[.pointer (some ⟨w.heap.size, 0, none⟩), .int .i64 1] (wr.alloc (.cells #[.bool true, .int .i64 c, .int .i64 x] 31)) fun e w' => e = .returned (.int .i64 (V.length : Nat)) ∧ (wr.alloc (.cells #[.bool true, .int .i64 c, .int .i64 x] 31)) = w') := Lib.hid (O2.out.len 1)
          have HP := Lib.hid O2.out.pop
          obtain ⟨p, hp⟩ : ∃ p, F.length = p := ⟨_, rfl⟩
          obtain ⟨q, hq⟩ : ∃ q, V.length = q := ⟨_, rfl⟩
          have hsz := O2.out.1.size
          have hc := hd_cases F V
          rw [hp, hq] at hc hsz
          rw [hp] at H0
          rw [hq] at H1
          have HPQ := Lib.hid (And.intro hp hq)
          clear hp hq O2
          go_wp2_with fail
          refine H0.out.mono ?_
          rintro e w' ⟨rfl, rfl⟩
          go_wp2_with fail
          refine H1.out.mono ?_
          rintro e w' ⟨rfl, rfl⟩
          clear H0 H1
          go_wp2_with fail
          refine HP.out.mono ?_
          rintro e w3 ⟨rfl, S3, O3, _⟩
          clear HP E0 E1 E2 y0 y1 y2
          rcases hc with ⟨h1, h2, h3⟩ | ⟨h1, h1', h2, h3⟩ | ⟨h1, h1', h2, h3⟩
          all_goals
            rw [h2, h3]
            clear h2 h3
          · have e1 : (0 : Int) < (p : Int) + (q : Int) := by omega
            have e2 : (0 : Int) < (p : Int) := by omega
            go_wp2_with fail
            go_roundw
            case rel => exact ⟨k + 1, _, _, S3, by omega, by go_num, O3⟩
            case measure => simp [intOf]; omega
          · have e1 : (0 : Int) < (p : Int) + (q : Int) := by omega
            have e2 : ¬ (0 : Int) < (p : Int) := by omega
            go_wp2_with fail
            go_roundw
            case rel => exact ⟨k + 1, _, _, S3, by omega, by go_num, O3⟩
            case measure => simp [intOf]; omega
          · have e1 : ¬ (0 : Int) < (p : Int) + (q : Int) := by omega
            go_wp2_with fail
            go_roundw
            case rel => exact ⟨k + 1, _, _, S3, by omega, by go_num, O3⟩
            case measure => simp [intOf]; omega
      · obtain rfl : k = len1 := by omega
        clear hlt
        have hlt : ¬ k < k := by omega
        go_wp2_with fail
        refine (alive_any _).mono ?_
        rintro e w2 ⟨rfl, hb⟩
        have HB := Lib.hid (O.out.below hb).2.2
        clear hb O
        go_wp2_with fail
        go_ret
        exact ⟨rfl, HB.out⟩
end Go.Proofs.Ytlmjhggnecmggaa
