/- alive: the chapter's example. -/
import Derived.Test.YtinndmglacfofaaDo
import Derived.Test.YtinndmglacfofaaRefN
namespace Go.Proofs.Ytinndmglacfofaa
open Go Go.RowKit
set_option linter.unusedVariables false
set_option linter.unusedSimpArgs false

def la : List Ent := [(2, 7)]
def lb : List Ent := [(2, 7), (6, 8)]
def lc : List Ent := [(6, 8)]
set_option maxHeartbeats 800000 in
theorem alive_any (w : World) : Calls Try.prog 10 #[] w fun e w' => e = .returned (.bool true) ∧ Below w.heap.size w w' := by
  have HB : Hid (∀ w, Calls Try.prog 9 #[.int .i64 4] w fun e w' => ∃ b S, e = .returned (.pointer (some ⟨b, 0, none⟩)) ∧ Ring w' b S 4 [] ∧ (∀ i, S i → w.heap.size ≤ i) ∧ Below w.heap.size w w') := Lib.hid (fun w => new_any 4 w (by decide) (by decide))
  have H7 := Lib.hid (fun (b : Nat) (S : Nat → Prop) (w : World) (h : Ring w b S 4 []) => put_any b 4 S [] 2 7 w h (by decide) (by decide) (by decide))
  have H8 := Lib.hid (fun (b : Nat) (S : Nat → Prop) (w : World) (h : Ring w b S 4 la) => put_any b 4 S la 6 8 w h (by decide) (by decide) (by decide))
  have HL : Hid (∀ (b : Nat) (S : Nat → Prop) (w : World) (h : Ring w b S 4 lb), Calls Try.prog 15 #[.pointer (some ⟨b, 0, none⟩), .int .i64 2] w fun e w' => e = .returned (.int .i64 2) ∧ w = w') := Lib.hid (fun b S w h => load_any b 4 2 S lb w h (by decide))
  have HD : Hid (∀ (b : Nat) (S : Nat → Prop) (w : World) (h : Ring w b S 4 lb), Calls Try.prog 20 #[.pointer (some ⟨b, 0, none⟩), .int .i64 2] w fun e w' => ∃ v S', e = .returned v ∧ w'.ownsRow w.heap.size 3 1 v 1 (([7] : List Int).map (Value.int .i64)) ∧ Ring w' b S' 4 lc ∧ (∀ i, S' i → S i) ∧ Kept S w w') := Lib.hid (fun b S w h => due_any b 4 S lb 2 w h (by decide) (by decide) (by decide))
  have HN : Hid (∀ (b : Nat) (S : Nat → Prop) (w : World) (h : Ring w b S 4 lc), Calls Try.prog 13 #[.pointer (some ⟨b, 0, none⟩)] w fun e w' => e = .returned (.tuple #[.int .i64 6, .bool true]) ∧ Below w.heap.size w w') := Lib.hid (fun b S w h => next_any b 4 S lc w h (by decide))
  have HM : Hid (∀ (b : Nat) (S : Nat → Prop) (w : World) (h : Ring w b S 4 lc), Calls Try.prog 12 #[.pointer (some ⟨b, 0, none⟩)] w fun e w' => e = .returned (.int .i64 1) ∧ Below w.heap.size w w') := Lib.hid (fun b S w h => len_any b 4 S lc w h (by decide))
  go_enter Try.func10, Try.ntmps10
  go_wp2_with fail
  refine (HB.out _).mono ?_
  rintro e w1 ⟨b, S, rfl, hr, hS, hb⟩
  have R1 := Lib.hid hr
  have S1 := Lib.hid hS
  have B1 := Lib.hid hb
  clear hr hS hb
  go_wp2_with fail
  refine (H7.out b S w1 R1.out).mono ?_
  rintro e w2 ⟨rfl, S2, hr, hm, hk⟩
  have R2 : Hid (Ring w2 b S2 4 la) := Lib.hid hr
  have T2 : Hid (∀ i, S2 i → w.heap.size ≤ i) := Lib.hid (fun i hi => (hm i hi).elim (S1.out i) (fun h => Nat.le_trans B1.out.size h))
  have B2 := Lib.hid (Kept.below B1.out hk S1.out B1.out.size)
  clear hr hm hk R1 S1 B1
  go_wp2_with fail
  refine (H8.out b S2 w2 R2.out).mono ?_
  rintro e w3 ⟨rfl, S3, hr, hm, hk⟩
  have R3 : Hid (Ring w3 b S3 4 lb) := Lib.hid hr
  have T3 : Hid (∀ i, S3 i → w.heap.size ≤ i) := Lib.hid (fun i hi => (hm i hi).elim (T2.out i) (fun h => Nat.le_trans B2.out.size h))
  have B3 := Lib.hid (Kept.below B2.out hk T2.out B2.out.size)
  clear hr hm hk R2 T2 B2
  go_wp2_with fail
  refine (HL.out b S3 w3 R3.out).mono ?_
  rintro e w4 ⟨rfl, rfl⟩
  go_wp2_with fail
  refine (HD.out b S3 w3 R3.out).mono ?_
  rintro e w4 ⟨v, S4, rfl, ho, hr, hm, hk⟩
  have R4 := Lib.hid hr
  have B4 := Lib.hid (Kept.below B3.out hk T3.out B3.out.size)
  obtain ⟨a1, c1, rfl, hl1, hc1, hc1', hi1⟩ := ints_of_owns (S := fun _ => False) ho (fun _ _ h => h)
  have I4 := Lib.hid hi1
  clear ho hr hm hk R3 T3 B3 hi1
  go_wp2_with fail
  refine (HN.out b S4 w4 R4.out).mono ?_
  rintro e w5 ⟨rfl, hb⟩
  have R5 := Lib.hid (R4.out.below hb)
  have B5 := Lib.hid (B4.out.trans (hb.mono B4.out.size))
  have I5 := Lib.hid (I4.out.below hb)
  clear hb R4 B4 I4
  go_wp2_with fail
  have B6 := Lib.hid (B5.out.alloc B5.out.size (.cells #[.int .i64 7] 3))
  have R6 := Lib.hid (R5.out.alloc (.cells #[.int .i64 7] 3))
  have I6 := Lib.hid (I5.out.below ((Below.refl _ w5).alloc (Nat.le_refl _) (.cells #[.int .i64 7] 3)))
  have J6 : Hid (IntsAt (w5.alloc (.cells #[.int .i64 7] 3)) (fun _ => False) (some ⟨w5.heap.size, 0, none⟩) [7]) := Lib.hid (IntsAt.of_blk (Blk.new w5 3 #[.int .i64 7]) (fun h => h))
  refine (equal_same (n := 1) I6.out J6.out rfl (by decide)).mono ?_
  rintro e w7 ⟨rfl, m, rfl⟩
  have B7 := Lib.hid (below_drewN B6.out m)
  have R7 := Lib.hid (R6.out.drewN m)
  clear B6 R6 I6 J6 B5 R5 I5
  generalize (w5.alloc (.cells #[.int .i64 7] 3)).drewN m = w7 at *
  go_wp2_with fail
  refine (HM.out b S4 w7 R7.out).mono ?_
  rintro e w8 ⟨rfl, hb⟩
  have B8 := Lib.hid (B7.out.trans (hb.mono B7.out.size))
  clear hb R7 B7
  go_wp2_with fail
  go_ret
  exact ⟨rfl, B8.out⟩
end Go.Proofs.Ytinndmglacfofaa
