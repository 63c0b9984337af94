/- The walk of BucketNil. Made by mkwnil.py. -/
import Derived.Test.YtinndmglacfofaaLaws
namespace Go.Proofs.Ytinndmglacfofaa
open Go Go.RowKit Go.Deep
set_option linter.unusedVariables false
set_option linter.unusedSimpArgs false

set_option maxHeartbeats 1600000 in
theorem walk_BucketNil (a0 a1 : Int) (w : World) (w0 : (Lit.int .i64 a0).wf = true) (w1 : (Lit.int .i64 a1).wf = true) :
    Calls Try.prog 8 #[.int .i64 a0, .int .i64 a1] w fun e w' => e = .returned (.bool true) ∧ Below w.heap.size w w' := by
  clear w0 w1
  have HNEW : Hid (∀ w, Calls Try.prog 9 #[.int .i64 3] w fun e w' => ∃ b S, e = .returned (.pointer (some ⟨b, 0, none⟩)) ∧ Ring w' b S 3 [] ∧ (∀ i, S i → w.heap.size ≤ i) ∧ Below w.heap.size w w') := Lib.hid (fun w => new_any 3 w (by decide) (by decide))
  rcases (show a0 < 0 ∨ (0 ≤ a0 ∧ 1099511627776 < a0) ∨ (0 ≤ a0 ∧ a0 ≤ 1099511627776) by omega) with hc | ⟨hc, hd⟩ | ⟨hc, hd⟩
  · have HOK : Hid (okE a0 = false) := Lib.hid (decide_eq_false (by omega))
    have hn : ¬ 0 ≤ a0 := by omega
    have HPUT : Hid (∀ (b : Nat) (S : Nat → Prop) (w : World) (h : Ring w b S 3 []), Calls Try.prog 19 #[.pointer (some ⟨b, 0, none⟩), .int .i64 a0, .int .i64 a1] w fun e w' => e = .returned (.bool false) ∧ ∃ S', Ring w' b S' 3 [] ∧ (∀ i, S' i → S i ∨ w.heap.size ≤ i) ∧ Kept S w w') := Lib.hid (fun b S w h => by
      have := put_all b 3 S [] a0 a1 w h (by decide)
      rw [putL, show okE a0 = false from HOK.out] at this
      exact this)
    clear HOK
    go_enter Try.func8, Try.ntmps8
    go_wp2_with fail
    refine (HNEW.out w).mono ?_
    rintro e w1 ⟨b, S, rfl, hr, hS, hb⟩
    have R1 := Lib.hid hr
    have S1 := Lib.hid hS
    have B1 := Lib.hid hb
    clear hr hS hb
    go_wp2_with fail
    refine (HPUT.out b S w1 R1.out).mono ?_
    rintro e w2 ⟨rfl, S2, hr, hm, hk⟩
    have R2 := Lib.hid hr
    have B2 := Lib.hid (Kept.below B1.out hk S1.out B1.out.size)
    clear hr hm hk R1 S1 B1
    go_wp2_with fail
    refine (next_nil w2).mono ?_
    rintro e w3 ⟨rfl, hb⟩
    have R3 := Lib.hid (R2.out.below hb)
    have B3 := Lib.hid (B2.out.trans (hb.mono B2.out.size))
    clear hb R2 B2
    go_wp2_with fail
    refine (alive_any w3).mono ?_
    rintro e w4 ⟨rfl, hb⟩
    have R4 := Lib.hid (R3.out.below hb)
    have B4 := Lib.hid (B3.out.trans (hb.mono B3.out.size))
    clear hb R3 B3
    go_wp2_with fail
    refine (len_any b 3 S2 [] w4 R4.out (by simp)).mono ?_
    rintro e w5 ⟨rfl, hb⟩
    have B5 := Lib.hid (B4.out.trans (hb.mono B4.out.size))
    clear hb R4 B4
    go_wp2_with fail
    refine (put_no none a0 a1 w5 (.inl rfl)).mono ?_
    rintro e w6 ⟨rfl, rfl⟩
    go_wp2_with fail
    refine (due_no none a0 w5 (.inl rfl)).mono ?_
    rintro e w6 ⟨rfl, rfl⟩
    go_wp2_with fail
    refine (len_nil w5).mono ?_
    rintro e w6 ⟨rfl, hb⟩
    have B6 := Lib.hid (B5.out.trans (hb.mono B5.out.size))
    clear hb B5
    go_wp2_with fail
    refine (load_nil 0 w6).mono ?_
    rintro e w7 ⟨rfl, rfl⟩
    go_wp2_with fail
    refine (all_nil w6).mono ?_
    rintro e w7 ⟨rfl, hb⟩
    have B7 := Lib.hid (B6.out.trans (hb.mono B6.out.size))
    clear hb B6
    go_wp2_with fail
    go_ret
    exact ⟨by first | rfl | (simp; omega), B7.out⟩
  · have HOK : Hid (okE a0 = false) := Lib.hid (decide_eq_false (by omega))
    have hn : ¬ a0 < 0 := by omega
    have hn2 : ¬ a0 ≤ 1099511627776 := by omega
    have HPUT : Hid (∀ (b : Nat) (S : Nat → Prop) (w : World) (h : Ring w b S 3 []), Calls Try.prog 19 #[.pointer (some ⟨b, 0, none⟩), .int .i64 a0, .int .i64 a1] w fun e w' => e = .returned (.bool false) ∧ ∃ S', Ring w' b S' 3 [] ∧ (∀ i, S' i → S i ∨ w.heap.size ≤ i) ∧ Kept S w w') := Lib.hid (fun b S w h => by
      have := put_all b 3 S [] a0 a1 w h (by decide)
      rw [putL, show okE a0 = false from HOK.out] at this
      exact this)
    clear HOK
    go_enter Try.func8, Try.ntmps8
    go_wp2_with fail
    refine (HNEW.out w).mono ?_
    rintro e w1 ⟨b, S, rfl, hr, hS, hb⟩
    have R1 := Lib.hid hr
    have S1 := Lib.hid hS
    have B1 := Lib.hid hb
    clear hr hS hb
    go_wp2_with fail
    refine (HPUT.out b S w1 R1.out).mono ?_
    rintro e w2 ⟨rfl, S2, hr, hm, hk⟩
    have R2 := Lib.hid hr
    have B2 := Lib.hid (Kept.below B1.out hk S1.out B1.out.size)
    clear hr hm hk R1 S1 B1
    go_wp2_with fail
    refine (next_nil w2).mono ?_
    rintro e w3 ⟨rfl, hb⟩
    have R3 := Lib.hid (R2.out.below hb)
    have B3 := Lib.hid (B2.out.trans (hb.mono B2.out.size))
    clear hb R2 B2
    go_wp2_with fail
    refine (alive_any w3).mono ?_
    rintro e w4 ⟨rfl, hb⟩
    have R4 := Lib.hid (R3.out.below hb)
    have B4 := Lib.hid (B3.out.trans (hb.mono B3.out.size))
    clear hb R3 B3
    go_wp2_with fail
    refine (len_any b 3 S2 [] w4 R4.out (by simp)).mono ?_
    rintro e w5 ⟨rfl, hb⟩
    have B5 := Lib.hid (B4.out.trans (hb.mono B4.out.size))
    clear hb R4 B4
    go_wp2_with fail
    refine (put_no none a0 a1 w5 (.inl rfl)).mono ?_
    rintro e w6 ⟨rfl, rfl⟩
    go_wp2_with fail
    refine (due_no none a0 w5 (.inl rfl)).mono ?_
    rintro e w6 ⟨rfl, rfl⟩
    go_wp2_with fail
    refine (len_nil w5).mono ?_
    rintro e w6 ⟨rfl, hb⟩
    have B6 := Lib.hid (B5.out.trans (hb.mono B5.out.size))
    clear hb B5
    go_wp2_with fail
    refine (load_nil 0 w6).mono ?_
    rintro e w7 ⟨rfl, rfl⟩
    go_wp2_with fail
    refine (all_nil w6).mono ?_
    rintro e w7 ⟨rfl, hb⟩
    have B7 := Lib.hid (B6.out.trans (hb.mono B6.out.size))
    clear hb B6
    go_wp2_with fail
    go_ret
    exact ⟨by first | rfl | (simp; omega), B7.out⟩
  · have HOK : Hid (okE a0 = true) := Lib.hid (decide_eq_true ⟨hc, hd⟩)
    have hn : ¬ a0 < 0 := by omega
    have hn2 : ¬ 1099511627776 < a0 := by omega
    have HPUT : Hid (∀ (b : Nat) (S : Nat → Prop) (w : World) (h : Ring w b S 3 []), Calls Try.prog 19 #[.pointer (some ⟨b, 0, none⟩), .int .i64 a0, .int .i64 a1] w fun e w' => e = .returned (.bool true) ∧ ∃ S', Ring w' b S' 3 [(a0, a1)] ∧ (∀ i, S' i → S i ∨ w.heap.size ≤ i) ∧ Kept S w w') := Lib.hid (fun b S w h => by
      have := put_all b 3 S [] a0 a1 w h (by decide)
      rw [putL, show okE a0 = true from HOK.out] at this
      exact this)
    clear HOK
    go_enter Try.func8, Try.ntmps8
    go_wp2_with fail
    refine (HNEW.out w).mono ?_
    rintro e w1 ⟨b, S, rfl, hr, hS, hb⟩
    have R1 := Lib.hid hr
    have S1 := Lib.hid hS
    have B1 := Lib.hid hb
    clear hr hS hb
    go_wp2_with fail
    refine (HPUT.out b S w1 R1.out).mono ?_
    rintro e w2 ⟨rfl, S2, hr, hm, hk⟩
    have R2 := Lib.hid hr
    have B2 := Lib.hid (Kept.below B1.out hk S1.out B1.out.size)
    clear hr hm hk R1 S1 B1
    go_wp2_with fail
    refine (next_nil w2).mono ?_
    rintro e w3 ⟨rfl, hb⟩
    have R3 := Lib.hid (R2.out.below hb)
    have B3 := Lib.hid (B2.out.trans (hb.mono B2.out.size))
    clear hb R2 B2
    go_wp2_with fail
    refine (alive_any w3).mono ?_
    rintro e w4 ⟨rfl, hb⟩
    have R4 := Lib.hid (R3.out.below hb)
    have B4 := Lib.hid (B3.out.trans (hb.mono B3.out.size))
    clear hb R3 B3
    go_wp2_with fail
    refine (len_any b 3 S2 [(a0, a1)] w4 R4.out (by simp)).mono ?_
    rintro e w5 ⟨rfl, hb⟩
    have B5 := Lib.hid (B4.out.trans (hb.mono B4.out.size))
    clear hb R4 B4
    go_wp2_with fail
    refine (put_no none a0 a1 w5 (.inl rfl)).mono ?_
    rintro e w6 ⟨rfl, rfl⟩
    go_wp2_with fail
    refine (due_no none a0 w5 (.inl rfl)).mono ?_
    rintro e w6 ⟨rfl, rfl⟩
    go_wp2_with fail
    refine (len_nil w5).mono ?_
    rintro e w6 ⟨rfl, hb⟩
    have B6 := Lib.hid (B5.out.trans (hb.mono B5.out.size))
    clear hb B5
    go_wp2_with fail
    refine (load_nil 0 w6).mono ?_
    rintro e w7 ⟨rfl, rfl⟩
    go_wp2_with fail
    refine (all_nil w6).mono ?_
    rintro e w7 ⟨rfl, hb⟩
    have B7 := Lib.hid (B6.out.trans (hb.mono B6.out.size))
    clear hb B6
    go_wp2_with fail
    go_ret
    exact ⟨by first | rfl | (simp; omega), B7.out⟩
end Go.Proofs.Ytinndmglacfofaa
