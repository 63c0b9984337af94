/- The ranges, and the twenty conditions as closures over a pointer to the configuration. -/
import Derived.Test.YtlnpppifdobcfaaCfg
import Derived.Lib.MinMax
namespace Go.Proofs.Ytlnpppifdobcfaa
open Go.RowKit
set_option linter.unusedVariables false

theorem btw_yes {v lo hi : Int} (h : lo ≤ v) (h' : v ≤ hi) : btw v lo hi = true := by unfold btw; simp; omega
theorem btw_no {v lo hi : Int} (h : v < lo ∨ hi < v) : btw v lo hi = false := by unfold btw; simp; omega

theorem withinI_any (v lo hi : Int) (w : World) :
    Calls Try.prog 24 #[.int .i64 v, .int .i64 lo, .int .i64 hi] w fun e w' => e = .returned (.bool (btw v lo hi)) ∧ w = w' := by
  by_cases h1 : lo ≤ v
  · have hd : decide (lo ≤ v) = true := by simpa using h1
    by_cases h2 : v ≤ hi
    · have H := Lib.hid (btw_yes h1 h2)
      go_enter Try.func24, Try.ntmps24
      go_wp2
      go_ret
      exact ⟨ret_bool H.out.symm, rfl⟩
    · have hd2 : decide (v ≤ hi) = false := by simpa using h2
      have H := Lib.hid (btw_no (v := v) (lo := lo) (hi := hi) (.inr (by omega)))
      go_enter Try.func24, Try.ntmps24
      go_wp2
      go_ret
      exact ⟨ret_bool H.out.symm, rfl⟩
  · have hd : decide (lo ≤ v) = false := by simpa using h1
    have H := Lib.hid (btw_no (v := v) (lo := lo) (hi := hi) (.inl (by omega)))
    go_enter Try.func24, Try.ntmps24
    go_wp2
    go_ret
    exact ⟨ret_bool H.out.symm, rfl⟩

theorem withinU_any (v lo hi : Int) (w : World) :
    Calls Try.prog 31 #[.int .u64 v, .int .u64 lo, .int .u64 hi] w fun e w' => e = .returned (.bool (btw v lo hi)) ∧ w = w' := by
  by_cases h1 : lo ≤ v
  · have hd : decide (lo ≤ v) = true := by simpa using h1
    by_cases h2 : v ≤ hi
    · have H := Lib.hid (btw_yes h1 h2)
      go_enter Try.func31, Try.ntmps31
      go_wp2
      go_ret
      exact ⟨ret_bool H.out.symm, rfl⟩
    · have hd2 : decide (v ≤ hi) = false := by simpa using h2
      have H := Lib.hid (btw_no (v := v) (lo := lo) (hi := hi) (.inr (by omega)))
      go_enter Try.func31, Try.ntmps31
      go_wp2
      go_ret
      exact ⟨ret_bool H.out.symm, rfl⟩
  · have hd : decide (lo ≤ v) = false := by simpa using h1
    have H := Lib.hid (btw_no (v := v) (lo := lo) (hi := hi) (.inl (by omega)))
    go_enter Try.func31, Try.ntmps31
    go_wp2
    go_ret
    exact ⟨ret_bool H.out.symm, rfl⟩

theorem between_any (v lo hi : Int) (w : World) :
    Calls Try.prog 25 #[.int .i64 v, .int .i64 lo, .int .i64 hi] w fun e w' => e = .returned (.bool (btw v lo hi)) ∧ w = w' := by
  by_cases h1 : lo ≤ v
  · have hd : decide (lo ≤ v) = true := by simpa using h1
    by_cases h2 : v ≤ hi
    · have H := Lib.hid (btw_yes h1 h2)
      go_enter Try.func25, Try.ntmps25
      go_wp2
      go_ret
      exact ⟨ret_bool H.out.symm, rfl⟩
    · have hd2 : decide (v ≤ hi) = false := by simpa using h2
      have H := Lib.hid (btw_no (v := v) (lo := lo) (hi := hi) (.inr (by omega)))
      go_enter Try.func25, Try.ntmps25
      go_wp2
      go_ret
      exact ⟨ret_bool H.out.symm, rfl⟩
  · have hd : decide (lo ≤ v) = false := by simpa using h1
    have H := Lib.hid (btw_no (v := v) (lo := lo) (hi := hi) (.inl (by omega)))
    go_enter Try.func25, Try.ntmps25
    go_wp2
    go_ret
    exact ⟨ret_bool H.out.symm, rfl⟩

theorem holds0 (bp bc : Nat) (c : Nat → Int) (w : World) (hp : w.cell? ⟨bp, 0, none⟩ = some (.pointer (some ⟨bc, 0, none⟩))) (hc : Blk w bc 24 (cellsOf c)) :
    Calls Try.prog 26 #[.pointer (some ⟨bp, 0, none⟩)] w fun e w' => e = .returned (.bool (rightB c 0)) ∧ ∃ n, w' = w.drewN n := by
  have c0 : w.cell? ⟨bc, 0, none⟩ = some (.int .i64 (c 0)) := Blk.cell hc 0
  clear hc
  go_enter Try.func26, Try.ntmps26
  go_wp2_with (first | (go_at_call 24; refine (withinI_any _ _ _ _).mono ?_; rintro e w' ⟨rfl, rfl⟩))
  go_ret
  exact ⟨rfl, 0, rfl⟩

theorem holds1 (bp bc : Nat) (c : Nat → Int) (w : World) (hp : w.cell? ⟨bp, 0, none⟩ = some (.pointer (some ⟨bc, 0, none⟩))) (hc : Blk w bc 24 (cellsOf c)) :
    Calls Try.prog 27 #[.pointer (some ⟨bp, 0, none⟩)] w fun e w' => e = .returned (.bool (rightB c 1)) ∧ ∃ n, w' = w.drewN n := by
  have c1 : w.cell? ⟨bc, 1, none⟩ = some (.int .i64 (c 1)) := Blk.cell hc 1
  clear hc
  go_enter Try.func27, Try.ntmps27
  go_wp2_with (first | (go_at_call 24; refine (withinI_any _ _ _ _).mono ?_; rintro e w' ⟨rfl, rfl⟩))
  go_ret
  exact ⟨rfl, 0, rfl⟩

theorem holds2 (bp bc : Nat) (c : Nat → Int) (w : World) (hp : w.cell? ⟨bp, 0, none⟩ = some (.pointer (some ⟨bc, 0, none⟩))) (hc : Blk w bc 24 (cellsOf c)) :
    Calls Try.prog 28 #[.pointer (some ⟨bp, 0, none⟩)] w fun e w' => e = .returned (.bool (rightB c 2)) ∧ ∃ n, w' = w.drewN n := by
  have c2 : w.cell? ⟨bc, 2, none⟩ = some (.int .u64 (c 2)) := Blk.cell hc 2
  clear hc
  go_enter Try.func28, Try.ntmps28
  go_wp2
  go_ret
  exact ⟨rfl, 0, rfl⟩

theorem holds3 (bp bc : Nat) (c : Nat → Int) (w : World) (hp : w.cell? ⟨bp, 0, none⟩ = some (.pointer (some ⟨bc, 0, none⟩))) (hc : Blk w bc 24 (cellsOf c)) :
    Calls Try.prog 29 #[.pointer (some ⟨bp, 0, none⟩)] w fun e w' => e = .returned (.bool (rightB c 3)) ∧ ∃ n, w' = w.drewN n := by
  have c3 : w.cell? ⟨bc, 3, none⟩ = some (.int .u64 (c 3)) := Blk.cell hc 3
  have c2 : w.cell? ⟨bc, 2, none⟩ = some (.int .u64 (c 2)) := Blk.cell hc 2
  clear hc
  go_enter Try.func29, Try.ntmps29
  go_wp2_with (fail)
  go_quiet (fail)
  go_wp2_with (fail)
  go_ret
  exact ⟨rfl, _, rfl⟩

theorem holds4 (bp bc : Nat) (c : Nat → Int) (w : World) (hp : w.cell? ⟨bp, 0, none⟩ = some (.pointer (some ⟨bc, 0, none⟩))) (hc : Blk w bc 24 (cellsOf c)) :
    Calls Try.prog 30 #[.pointer (some ⟨bp, 0, none⟩)] w fun e w' => e = .returned (.bool (rightB c 4)) ∧ ∃ n, w' = w.drewN n := by
  have c4 : w.cell? ⟨bc, 4, none⟩ = some (.int .u64 (c 4)) := Blk.cell hc 4
  have c3 : w.cell? ⟨bc, 3, none⟩ = some (.int .u64 (c 3)) := Blk.cell hc 3
  clear hc
  go_enter Try.func30, Try.ntmps30
  go_wp2_with (fail)
  go_quiet ((go_at_call 31; exact quiet_left (withinU_any _ _ _ _)))
  go_wp2_with (fail)
  go_ret
  exact ⟨rfl, _, rfl⟩

theorem holds5 (bp bc : Nat) (c : Nat → Int) (w : World) (hp : w.cell? ⟨bp, 0, none⟩ = some (.pointer (some ⟨bc, 0, none⟩))) (hc : Blk w bc 24 (cellsOf c)) :
    Calls Try.prog 32 #[.pointer (some ⟨bp, 0, none⟩)] w fun e w' => e = .returned (.bool (rightB c 5)) ∧ ∃ n, w' = w.drewN n := by
  have c5 : w.cell? ⟨bc, 5, none⟩ = some (.int .u64 (c 5)) := Blk.cell hc 5
  have c2 : w.cell? ⟨bc, 2, none⟩ = some (.int .u64 (c 2)) := Blk.cell hc 2
  clear hc
  go_enter Try.func32, Try.ntmps32
  go_wp2_with (fail)
  go_quiet ((go_at_call 31; exact quiet_left (withinU_any _ _ _ _)))
  go_wp2_with (fail)
  go_ret
  exact ⟨rfl, _, rfl⟩

theorem holds6 (bp bc : Nat) (c : Nat → Int) (w : World) (hp : w.cell? ⟨bp, 0, none⟩ = some (.pointer (some ⟨bc, 0, none⟩))) (hc : Blk w bc 24 (cellsOf c)) :
    Calls Try.prog 33 #[.pointer (some ⟨bp, 0, none⟩)] w fun e w' => e = .returned (.bool (rightB c 6)) ∧ ∃ n, w' = w.drewN n := by
  have c6 : w.cell? ⟨bc, 6, none⟩ = some (.int .u64 (c 6)) := Blk.cell hc 6
  have c3 : w.cell? ⟨bc, 3, none⟩ = some (.int .u64 (c 3)) := Blk.cell hc 3
  have c4 : w.cell? ⟨bc, 4, none⟩ = some (.int .u64 (c 4)) := Blk.cell hc 4
  clear hc
  go_enter Try.func33, Try.ntmps33
  go_wp2_with (fail)
  go_quiet ((go_at_call 31; exact quiet_left (withinU_any _ _ _ _)))
  go_wp2_with (fail)
  go_ret
  exact ⟨rfl, _, rfl⟩

theorem holds7 (bp bc : Nat) (c : Nat → Int) (w : World) (hp : w.cell? ⟨bp, 0, none⟩ = some (.pointer (some ⟨bc, 0, none⟩))) (hc : Blk w bc 24 (cellsOf c)) :
    Calls Try.prog 34 #[.pointer (some ⟨bp, 0, none⟩)] w fun e w' => e = .returned (.bool (rightB c 7)) ∧ ∃ n, w' = w.drewN n := by
  have c7 : w.cell? ⟨bc, 7, none⟩ = some (.int .u64 (c 7)) := Blk.cell hc 7
  clear hc
  go_enter Try.func34, Try.ntmps34
  go_wp2_with (first | (go_at_call 31; refine (withinU_any _ _ _ _).mono ?_; rintro e w' ⟨rfl, rfl⟩))
  go_ret
  exact ⟨rfl, 0, rfl⟩

theorem holds8 (bp bc : Nat) (c : Nat → Int) (w : World) (hp : w.cell? ⟨bp, 0, none⟩ = some (.pointer (some ⟨bc, 0, none⟩))) (hc : Blk w bc 24 (cellsOf c)) :
    Calls Try.prog 35 #[.pointer (some ⟨bp, 0, none⟩)] w fun e w' => e = .returned (.bool (rightB c 8)) ∧ ∃ n, w' = w.drewN n := by
  have c8 : w.cell? ⟨bc, 8, none⟩ = some (.int .u64 (c 8)) := Blk.cell hc 8
  clear hc
  go_enter Try.func35, Try.ntmps35
  go_wp2
  go_ret
  exact ⟨rfl, 0, rfl⟩

theorem holds9 (bp bc : Nat) (c : Nat → Int) (w : World) (hp : w.cell? ⟨bp, 0, none⟩ = some (.pointer (some ⟨bc, 0, none⟩))) (hc : Blk w bc 24 (cellsOf c)) :
    Calls Try.prog 36 #[.pointer (some ⟨bp, 0, none⟩)] w fun e w' => e = .returned (.bool (rightB c 9)) ∧ ∃ n, w' = w.drewN n := by
  have c9 : w.cell? ⟨bc, 9, none⟩ = some (.int .u64 (c 9)) := Blk.cell hc 9
  clear hc
  go_enter Try.func36, Try.ntmps36
  go_wp2
  go_ret
  exact ⟨rfl, 0, rfl⟩

theorem holds10 (bp bc : Nat) (c : Nat → Int) (w : World) (hp : w.cell? ⟨bp, 0, none⟩ = some (.pointer (some ⟨bc, 0, none⟩))) (hc : Blk w bc 24 (cellsOf c)) :
    Calls Try.prog 37 #[.pointer (some ⟨bp, 0, none⟩)] w fun e w' => e = .returned (.bool (rightB c 10)) ∧ ∃ n, w' = w.drewN n := by
  have c10 : w.cell? ⟨bc, 10, none⟩ = some (.int .i64 (c 10)) := Blk.cell hc 10
  clear hc
  go_enter Try.func37, Try.ntmps37
  go_wp2_with (first | (go_at_call 24; refine (withinI_any _ _ _ _).mono ?_; rintro e w' ⟨rfl, rfl⟩))
  go_ret
  exact ⟨rfl, 0, rfl⟩

theorem holds11 (bp bc : Nat) (c : Nat → Int) (w : World) (hp : w.cell? ⟨bp, 0, none⟩ = some (.pointer (some ⟨bc, 0, none⟩))) (hc : Blk w bc 24 (cellsOf c)) :
    Calls Try.prog 38 #[.pointer (some ⟨bp, 0, none⟩)] w fun e w' => e = .returned (.bool (rightB c 11)) ∧ ∃ n, w' = w.drewN n := by
  have c11 : w.cell? ⟨bc, 11, none⟩ = some (.int .i64 (c 11)) := Blk.cell hc 11
  have c10 : w.cell? ⟨bc, 10, none⟩ = some (.int .i64 (c 10)) := Blk.cell hc 10
  clear hc
  by_cases h1 : c 10 < c 11
  · have hd : decide (c 10 < c 11) = true := by simpa using h1
    have H := Lib.hid (show rightB c 11 = decide (c 11 ≤ 1048576) by simp [rightB, h1])
    go_enter Try.func38, Try.ntmps38
    go_wp2_with (fail)
    go_quiet (fail)
    go_wp2_with (fail)
    go_ret
    exact ⟨ret_bool H.out.symm, _, rfl⟩
  · have hd : decide (c 10 < c 11) = false := by simpa using h1
    have H := Lib.hid (show rightB c 11 = false by simp [rightB, h1])
    go_enter Try.func38, Try.ntmps38
    go_wp2_with (fail)
    go_quiet (fail)
    go_wp2_with (fail)
    go_ret
    exact ⟨ret_bool H.out.symm, _, rfl⟩

theorem holds12 (bp bc : Nat) (c : Nat → Int) (w : World) (hp : w.cell? ⟨bp, 0, none⟩ = some (.pointer (some ⟨bc, 0, none⟩))) (hc : Blk w bc 24 (cellsOf c)) :
    Calls Try.prog 39 #[.pointer (some ⟨bp, 0, none⟩)] w fun e w' => e = .returned (.bool (rightB c 12)) ∧ ∃ n, w' = w.drewN n := by
  have c12 : w.cell? ⟨bc, 12, none⟩ = some (.int .i64 (c 12)) := Blk.cell hc 12
  clear hc
  go_enter Try.func39, Try.ntmps39
  go_wp2_with (first | (go_at_call 24; refine (withinI_any _ _ _ _).mono ?_; rintro e w' ⟨rfl, rfl⟩))
  go_ret
  exact ⟨rfl, 0, rfl⟩

theorem holds13 (bp bc : Nat) (c : Nat → Int) (w : World) (hp : w.cell? ⟨bp, 0, none⟩ = some (.pointer (some ⟨bc, 0, none⟩))) (hc : Blk w bc 24 (cellsOf c)) :
    Calls Try.prog 40 #[.pointer (some ⟨bp, 0, none⟩)] w fun e w' => e = .returned (.bool (rightB c 13)) ∧ ∃ n, w' = w.drewN n := by
  have c13 : w.cell? ⟨bc, 13, none⟩ = some (.int .i64 (c 13)) := Blk.cell hc 13
  clear hc
  go_enter Try.func40, Try.ntmps40
  go_wp2_with (first | (go_at_call 24; refine (withinI_any _ _ _ _).mono ?_; rintro e w' ⟨rfl, rfl⟩))
  go_ret
  exact ⟨rfl, 0, rfl⟩

theorem holds14 (bp bc : Nat) (c : Nat → Int) (w : World) (hp : w.cell? ⟨bp, 0, none⟩ = some (.pointer (some ⟨bc, 0, none⟩))) (hc : Blk w bc 24 (cellsOf c)) :
    Calls Try.prog 41 #[.pointer (some ⟨bp, 0, none⟩)] w fun e w' => e = .returned (.bool (rightB c 14)) ∧ ∃ n, w' = w.drewN n := by
  have c14 : w.cell? ⟨bc, 14, none⟩ = some (.int .i64 (c 14)) := Blk.cell hc 14
  clear hc
  go_enter Try.func41, Try.ntmps41
  go_wp2_with (first | (go_at_call 24; refine (withinI_any _ _ _ _).mono ?_; rintro e w' ⟨rfl, rfl⟩))
  go_ret
  exact ⟨rfl, 0, rfl⟩

theorem holds15 (bp bc : Nat) (c : Nat → Int) (w : World) (hp : w.cell? ⟨bp, 0, none⟩ = some (.pointer (some ⟨bc, 0, none⟩))) (hc : Blk w bc 24 (cellsOf c)) :
    Calls Try.prog 42 #[.pointer (some ⟨bp, 0, none⟩)] w fun e w' => e = .returned (.bool (rightB c 15)) ∧ ∃ n, w' = w.drewN n := by
  have c15 : w.cell? ⟨bc, 15, none⟩ = some (.int .i64 (c 15)) := Blk.cell hc 15
  clear hc
  go_enter Try.func42, Try.ntmps42
  go_wp2_with (first | (go_at_call 24; refine (withinI_any _ _ _ _).mono ?_; rintro e w' ⟨rfl, rfl⟩))
  go_ret
  exact ⟨rfl, 0, rfl⟩

theorem holds16 (bp bc : Nat) (c : Nat → Int) (w : World) (hp : w.cell? ⟨bp, 0, none⟩ = some (.pointer (some ⟨bc, 0, none⟩))) (hc : Blk w bc 24 (cellsOf c)) :
    Calls Try.prog 43 #[.pointer (some ⟨bp, 0, none⟩)] w fun e w' => e = .returned (.bool (rightB c 16)) ∧ ∃ n, w' = w.drewN n := by
  have c16 : w.cell? ⟨bc, 16, none⟩ = some (.int .i64 (c 16)) := Blk.cell hc 16
  have c14 : w.cell? ⟨bc, 14, none⟩ = some (.int .i64 (c 14)) := Blk.cell hc 14
  have c15 : w.cell? ⟨bc, 15, none⟩ = some (.int .i64 (c 15)) := Blk.cell hc 15
  clear hc
  by_cases h1 : 0 ≤ c 16
  · have hd : decide (0 ≤ c 16) = true := by simpa using h1
    have H := Lib.hid (show rightB c 16 = decide (c 16 < min (c 14) (c 15)) by simp [rightB, h1, Int.lt_min])
    go_enter Try.func43, Try.ntmps43
    go_wp2_with (fail)
    go_quiet (fail)
    go_wp2_with (fail)
    go_ret
    exact ⟨ret_bool H.out.symm, _, rfl⟩
  · have hd : decide (0 ≤ c 16) = false := by simpa using h1
    have H := Lib.hid (show rightB c 16 = false by simp [rightB, h1])
    go_enter Try.func43, Try.ntmps43
    go_wp2_with (fail)
    go_quiet (fail)
    go_wp2_with (fail)
    go_ret
    exact ⟨ret_bool H.out.symm, _, rfl⟩

theorem holds17 (bp bc : Nat) (c : Nat → Int) (w : World) (hp : w.cell? ⟨bp, 0, none⟩ = some (.pointer (some ⟨bc, 0, none⟩))) (hc : Blk w bc 24 (cellsOf c)) :
    Calls Try.prog 44 #[.pointer (some ⟨bp, 0, none⟩)] w fun e w' => e = .returned (.bool (rightB c 17)) ∧ ∃ n, w' = w.drewN n := by
  have c17 : w.cell? ⟨bc, 17, none⟩ = some (.int .i64 (c 17)) := Blk.cell hc 17
  clear hc
  go_enter Try.func44, Try.ntmps44
  go_wp2_with (first | (go_at_call 24; refine (withinI_any _ _ _ _).mono ?_; rintro e w' ⟨rfl, rfl⟩))
  go_ret
  exact ⟨rfl, 0, rfl⟩

theorem holds18 (bp bc : Nat) (c : Nat → Int) (w : World) (hp : w.cell? ⟨bp, 0, none⟩ = some (.pointer (some ⟨bc, 0, none⟩))) (hc : Blk w bc 24 (cellsOf c)) :
    Calls Try.prog 45 #[.pointer (some ⟨bp, 0, none⟩)] w fun e w' => e = .returned (.bool (rightB c 18)) ∧ ∃ n, w' = w.drewN n := by
  have c18 : w.cell? ⟨bc, 18, none⟩ = some (.int .u64 (c 18)) := Blk.cell hc 18
  have c19 : w.cell? ⟨bc, 19, none⟩ = some (.int .u64 (c 19)) := Blk.cell hc 19
  clear hc
  go_enter Try.func45, Try.ntmps45
  go_wp2_with (fail)
  go_quiet (fail)
  go_wp2_with (fail)
  go_ret
  exact ⟨rfl, _, rfl⟩

theorem holds19 (bp bc : Nat) (c : Nat → Int) (w : World) (hp : w.cell? ⟨bp, 0, none⟩ = some (.pointer (some ⟨bc, 0, none⟩))) (hc : Blk w bc 24 (cellsOf c)) :
    Calls Try.prog 46 #[.pointer (some ⟨bp, 0, none⟩)] w fun e w' => e = .returned (.bool (rightB c 19)) ∧ ∃ n, w' = w.drewN n := by
  have c19 : w.cell? ⟨bc, 19, none⟩ = some (.int .u64 (c 19)) := Blk.cell hc 19
  clear hc
  go_enter Try.func46, Try.ntmps46
  go_wp2_with (first | (go_at_call 31; refine (withinU_any _ _ _ _).mono ?_; rintro e w' ⟨rfl, rfl⟩))
  go_ret
  exact ⟨rfl, 0, rfl⟩

end Go.Proofs.Ytlnpppifdobcfaa
