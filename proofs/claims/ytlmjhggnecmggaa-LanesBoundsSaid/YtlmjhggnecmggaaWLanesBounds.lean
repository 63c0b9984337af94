/- The walk of LanesBounds. (Written by mkbounds.py.) -/
import Derived.Test.YtlmjhggnecmggaaLive
import Derived.OpenShut
namespace Go.Proofs.Ytlmjhggnecmggaa
open Go Go.RowKit Go.OpenShut
set_option linter.unusedVariables false
set_option linter.unusedSimpArgs false

set_option maxHeartbeats 800000 in
theorem bounds0 (a0 a1 a2 : Int) (w : World) (w0 : (Lit.int .u8 a0).wf = true) (w1 : (Lit.int .u8 a1).wf = true) (w2 : (Lit.int .u8 a2).wf = true) (hc : a1 % 2 = 0) :
    Calls Try.prog 7 #[.int .u8 a0, .int .u8 a1, .int .u8 a2] w fun e w' => e = .returned (.bool true) ∧ Below w.heap.size w w' := by
  obtain ⟨x0, x1⟩ := bounds_u8 w0
  obtain ⟨y0, y1⟩ := bounds_u8 w1
  obtain ⟨z0, z1⟩ := bounds_u8 w2
  obtain ⟨n, hn, hn1, hn2⟩ : ∃ n : Nat, a0 % 30 + 1 = n ∧ 1 ≤ n ∧ n ≤ 30 := ⟨(a0 % 30 + 1).toNat, by omega, by omega, by omega⟩
  obtain ⟨m, hm, hm1, hm2⟩ : ∃ m : Nat, a2 % 5 + 1 = m ∧ 1 ≤ m ∧ m ≤ 5 := ⟨(a2 % 5 + 1).toNat, by omega, by omega, by omega⟩
  have HN := Lib.hid (fun w => Own.new n w hn1 (by omega))
  clear w0 w1 w2
  go_enter Try.func7, Try.ntmps7
  go_wp2_with fail
  refine (HN.out _).mono ?_
  rintro e w1 ⟨rfl, S1, O1⟩
  clear HN
  go_wp2_with fail
  go_loopw [23] (fun s23 wr => ∃ (k : Nat) (L : List Int) (S : Nat → Prop), k ≤ n ∧ s23 = .int .i64 k ∧ Hid (Own w wr w.heap.size S n L [] ∧ L.length = k)) (fun s23 _ => n - (intOf s23).toNat)
  case atStart => exact ⟨0, [], S1, by omega, rfl, Lib.hid ⟨O1.out, rfl⟩⟩
  case round =>
    obtain ⟨k, L, S, hk, rfl, H⟩ := hrel
    by_cases hlt : k < n
    · have HP : Hid (Calls Try.prog 13 #[.pointer (some ⟨w.heap.size, 0, none⟩), .int .i64 0, .int .i64 k] wr fun e w' => e = .returned (.int .i64 0) ∧ Went w wr w.heap.size S n (L ++ [(k : Int)]) [] w') := Lib.hid (by
        have hl := H.out.2
        have := H.out.1.push 0 k
        rw [show errP n L [] 0 = 0 by simp [errP, hl, hlt]] at this
        simpa [pushF, pushV, hl, hlt] using this)
      go_wp2_with fail
      refine HP.out.mono ?_
      rintro e w2 ⟨rfl, S2, O2, _⟩
      have HH : Hid (Own w w2 w.heap.size S2 n (L ++ [(k : Int)]) [] ∧ (L ++ [(k : Int)]).length = k + 1) := Lib.hid ⟨O2.out, by simp [H.out.2]⟩
      clear H HP O2
      go_wp2_with fail
      go_roundw
      case rel => exact ⟨k + 1, _, S2, by omega, by go_num, HH⟩
      case measure => simp [intOf]; omega
    · obtain rfl : k = n := by omega
      clear hlt O1
      have hlt : ¬ k < k := by omega
      go_wp2_with fail
      go_loopw [36] (fun s36 wr => ∃ (j : Nat) (S : Nat → Prop), j ≤ m ∧ s36 = .int .i64 j ∧ Hid (Own w wr w.heap.size S k L [])) (fun s36 _ => m - (intOf s36).toNat)
      case atStart => exact ⟨0, S, by omega, rfl, Lib.hid H.out.1⟩
      case round =>
        obtain ⟨j, S, hj, rfl, O⟩ := hrel
        have HL : Hid (L.length = k) := Lib.hid H.out.2
        clear H
        by_cases hjm : j < m
        · have HP : Hid (Calls Try.prog 13 #[.pointer (some ⟨w.heap.size, 0, none⟩), .int .i64 0, .int .i64 9] wr fun e w' => e = .returned (.int .i64 6) ∧ Went w wr w.heap.size S k L [] w') := Lib.hid (by
            have hl := HL.out
            have := O.out.push 0 9
            rw [show errP k L [] 0 = 6 by simp [errP, hl]] at this
            simpa [pushF, pushV, hl] using this)
          go_wp2_with fail
          refine HP.out.mono ?_
          rintro e w2 ⟨rfl, S2, O2, _⟩
          clear HP O
          go_wp2_with fail
          go_roundw
          case rel => exact ⟨j + 1, S2, by omega, by go_num, O2⟩
          case measure => simp [intOf]; omega
        · obtain rfl : j = m := by omega
          clear hjm
          have hjm : ¬ j < j := by omega
          go_wp2_with fail
          refine (alive_any _).mono ?_
          rintro e w2 ⟨rfl, hb⟩
          have O2 := Lib.hid (O.out.below hb)
          have H1 : Hid (Calls Try.prog 14 #[.pointer (some ⟨w.heap.size, 0, none⟩), .int .i64 0] w2 fun e w' => e = .returned (.int .i64 k) ∧ w2 = w') := Lib.hid (by
            have := O2.out.len 0
            rw [show laneL L [] 0 = L from rfl, HL.out] at this
            exact this)
          clear hb O
          go_wp2_with fail
          refine H1.out.mono ?_
          rintro e w' ⟨rfl, rfl⟩
          have H2 : Hid (Calls Try.prog 18 #[.pointer (some ⟨w.heap.size, 0, none⟩), .int .i64 0] w2 fun e w' => e = .returned (.int .i64 0) ∧ ∃ q, w' = w2.drewN q) := Lib.hid (by
            have := O2.out.free 0
            rw [show freeN k L [] 0 = 0 by simp [freeN, HL.out]] at this
            exact this)
          clear H1
          go_wp2_with fail
          refine H2.out.mono ?_
          rintro e w3 ⟨rfl, q, hq⟩
          have O3 : Hid (Own w w3 w.heap.size S k L []) := by rw [hq]; exact Lib.hid (O2.out.drewN q)
          have H3 : Hid (Calls Try.prog 13 #[.pointer (some ⟨w.heap.size, 0, none⟩), .int .i64 1, .int .i64 5] w3 fun e w' => e = .returned (.int .i64 0) ∧ Went w w3 w.heap.size S k L [5] w') := Lib.hid (by
            have := O3.out.push 1 5
            have h0 : 0 < k := by omega
            rw [show errP k L [] 1 = 0 by simp [errP, h0]] at this
            simpa [pushF, pushV, h0] using this)
          clear H2 O2 hq
          go_wp2_with fail
          refine H3.out.mono ?_
          rintro e w4 ⟨rfl, S4, O4, _⟩
          have H4 : Hid (Calls Try.prog 14 #[.pointer (some ⟨w.heap.size, 0, none⟩), .int .i64 1] w4 fun e w' => e = .returned (.int .i64 1) ∧ w4 = w') := Lib.hid (O4.out.len 1)
          clear H3 O3
          go_wp2_with fail
          refine H4.out.mono ?_
          rintro e w' ⟨rfl, rfl⟩
          have HB := Lib.hid O4.out.2.2
          clear H4 O4
          go_wp2_with fail
          go_ret
          exact ⟨rfl, HB.out⟩
set_option maxHeartbeats 800000 in
theorem bounds1 (a0 a1 a2 : Int) (w : World) (w0 : (Lit.int .u8 a0).wf = true) (w1 : (Lit.int .u8 a1).wf = true) (w2 : (Lit.int .u8 a2).wf = true) (hc : a1 % 2 = 1) :
    Calls Try.prog 7 #[.int .u8 a0, .int .u8 a1, .int .u8 a2] w fun e w' => e = .returned (.bool true) ∧ Below w.heap.size w w' := by
  obtain ⟨x0, x1⟩ := bounds_u8 w0
  obtain ⟨y0, y1⟩ := bounds_u8 w1
  obtain ⟨z0, z1⟩ := bounds_u8 w2
  obtain ⟨n, hn, hn1, hn2⟩ : ∃ n : Nat, a0 % 30 + 1 = n ∧ 1 ≤ n ∧ n ≤ 30 := ⟨(a0 % 30 + 1).toNat, by omega, by omega, by omega⟩
  obtain ⟨m, hm, hm1, hm2⟩ : ∃ m : Nat, a2 % 5 + 1 = m ∧ 1 ≤ m ∧ m ≤ 5 := ⟨(a2 % 5 + 1).toNat, by omega, by omega, by omega⟩
  have HN := Lib.hid (fun w => Own.new n w hn1 (by omega))
  clear w0 w1 w2
  go_enter Try.func7, Try.ntmps7
  go_wp2_with fail
  refine (HN.out _).mono ?_
  rintro e w1 ⟨rfl, S1, O1⟩
  clear HN
  go_wp2_with fail
  go_loopw [23] (fun s23 wr => ∃ (k : Nat) (L : List Int) (S : Nat → Prop), k ≤ n ∧ s23 = .int .i64 k ∧ Hid (Own w wr w.heap.size S n [] L ∧ L.length = k)) (fun s23 _ => n - (intOf s23).toNat)
  case atStart => exact ⟨0, [], S1, by omega, rfl, Lib.hid ⟨O1.out, rfl⟩⟩
  case round =>
    obtain ⟨k, L, S, hk, rfl, H⟩ := hrel
    by_cases hlt : k < n
    · have HP : Hid (Calls Try.prog 13 #[.pointer (some ⟨w.heap.size, 0, none⟩), .int .i64 1, .int .i64 k] wr fun e w' => e = .returned (.int .i64 0) ∧ Went w wr w.heap.size S n [] (L ++ [(k : Int)]) w') := Lib.hid (by
        have hl := H.out.2
        have := H.out.1.push 1 k
        rw [show errP n [] L 1 = 0 by simp [errP, hl, hlt]] at this
        simpa [pushF, pushV, hl, hlt] using this)
      go_wp2_with fail
      refine HP.out.mono ?_
      rintro e w2 ⟨rfl, S2, O2, _⟩
      have HH : Hid (Own w w2 w.heap.size S2 n [] (L ++ [(k : Int)]) ∧ (L ++ [(k : Int)]).length = k + 1) := Lib.hid ⟨O2.out, by simp [H.out.2]⟩
      clear H HP O2
      go_wp2_with fail
      go_roundw
      case rel => exact ⟨k + 1, _, S2, by omega, by go_num, HH⟩
      case measure => simp [intOf]; omega
    · obtain rfl : k = n := by omega
      clear hlt O1
      have hlt : ¬ k < k := by omega
      go_wp2_with fail
      go_loopw [36] (fun s36 wr => ∃ (j : Nat) (S : Nat → Prop), j ≤ m ∧ s36 = .int .i64 j ∧ Hid (Own w wr w.heap.size S k [] L)) (fun s36 _ => m - (intOf s36).toNat)
      case atStart => exact ⟨0, S, by omega, rfl, Lib.hid H.out.1⟩
      case round =>
        obtain ⟨j, S, hj, rfl, O⟩ := hrel
        have HL : Hid (L.length = k) := Lib.hid H.out.2
        clear H
        by_cases hjm : j < m
        · have HP : Hid (Calls Try.prog 13 #[.pointer (some ⟨w.heap.size, 0, none⟩), .int .i64 1, .int .i64 9] wr fun e w' => e = .returned (.int .i64 6) ∧ Went w wr w.heap.size S k [] L w') := Lib.hid (by
            have hl := HL.out
            have := O.out.push 1 9
            rw [show errP k [] L 1 = 6 by simp [errP, hl]] at this
            simpa [pushF, pushV, hl] using this)
          go_wp2_with fail
          refine HP.out.mono ?_
          rintro e w2 ⟨rfl, S2, O2, _⟩
          clear HP O
          go_wp2_with fail
          go_roundw
          case rel => exact ⟨j + 1, S2, by omega, by go_num, O2⟩
          case measure => simp [intOf]; omega
        · obtain rfl : j = m := by omega
          clear hjm
          have hjm : ¬ j < j := by omega
          go_wp2_with fail
          refine (alive_any _).mono ?_
          rintro e w2 ⟨rfl, hb⟩
          have O2 := Lib.hid (O.out.below hb)
          have H1 : Hid (Calls Try.prog 14 #[.pointer (some ⟨w.heap.size, 0, none⟩), .int .i64 1] w2 fun e w' => e = .returned (.int .i64 k) ∧ w2 = w') := Lib.hid (by
            have := O2.out.len 1
            rw [show laneL [] L 1 = L from rfl, HL.out] at this
            exact this)
          clear hb O
          go_wp2_with fail
          refine H1.out.mono ?_
          rintro e w' ⟨rfl, rfl⟩
          have H2 : Hid (Calls Try.prog 18 #[.pointer (some ⟨w.heap.size, 0, none⟩), .int .i64 1] w2 fun e w' => e = .returned (.int .i64 0) ∧ ∃ q, w' = w2.drewN q) := Lib.hid (by
            have := O2.out.free 1
            rw [show freeN k [] L 1 = 0 by simp [freeN, HL.out]] at this
            exact this)
          clear H1
          go_wp2_with fail
          refine H2.out.mono ?_
          rintro e w3 ⟨rfl, q, hq⟩
          have O3 : Hid (Own w w3 w.heap.size S k [] L) := by rw [hq]; exact Lib.hid (O2.out.drewN q)
          have H3 : Hid (Calls Try.prog 13 #[.pointer (some ⟨w.heap.size, 0, none⟩), .int .i64 0, .int .i64 5] w3 fun e w' => e = .returned (.int .i64 0) ∧ Went w w3 w.heap.size S k [5] L w') := Lib.hid (by
            have := O3.out.push 0 5
            have h0 : 0 < k := by omega
            rw [show errP k [] L 0 = 0 by simp [errP, h0]] at this
            simpa [pushF, pushV, h0] using this)
          clear H2 O2 hq
          go_wp2_with fail
          refine H3.out.mono ?_
          rintro e w4 ⟨rfl, S4, O4, _⟩
          have H4 : Hid (Calls Try.prog 14 #[.pointer (some ⟨w.heap.size, 0, none⟩), .int .i64 0] w4 fun e w' => e = .returned (.int .i64 1) ∧ w4 = w') := Lib.hid (O4.out.len 0)
          clear H3 O3
          go_wp2_with fail
          refine H4.out.mono ?_
          rintro e w' ⟨rfl, rfl⟩
          have HB := Lib.hid O4.out.2.2
          clear H4 O4
          go_wp2_with fail
          go_ret
          exact ⟨rfl, HB.out⟩
theorem walk_LanesBounds (a0 : Int) (a1 : Int) (a2 : Int) (w : World) (w0 : (Lit.int .u8 a0).wf = true) (w1 : (Lit.int .u8 a1).wf = true) (w2 : (Lit.int .u8 a2).wf = true) :
    Calls Try.prog 7 #[.int .u8 a0, .int .u8 a1, .int .u8 a2] w fun e w' => e = .returned (.bool true) ∧ Below w.heap.size w w' := by
  by_cases h : a1 % 2 = 0
  · exact bounds0 a0 a1 a2 w w0 w1 w2 h
  · exact bounds1 a0 a1 a2 w w0 w1 w2 (by omega)
end Go.Proofs.Ytlmjhggnecmggaa
