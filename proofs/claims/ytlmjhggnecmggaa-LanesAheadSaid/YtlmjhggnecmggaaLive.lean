/- A law's own lanes; the chapter's example. -/
import Derived.Test.YtlmjhggnecmggaaActs
import Derived.Test.YtlmjhggnecmggaaLists
namespace Go.Proofs.Ytlmjhggnecmggaa
open Go Go.RowKit
set_option linter.unusedVariables false
set_option linter.unusedSimpArgs false

/-- Lanes made since w0. -/
def Own (w0 w : World) (b : Nat) (S : Nat → Prop) (n : Nat) (F V : List Int) : Prop := Ln w b S n F V ∧ (∀ i, S i → w0.heap.size ≤ i) ∧ Below w0.heap.size w0 w
section
variable {w0 w w' : World} {b n : Nat} {S T : Nat → Prop} {F V : List Int}
theorem Own.below (h : Own w0 w b S n F V) (k : Below w.heap.size w w') : Own w0 w' b S n F V := ⟨h.1.below k, h.2.1, h.2.2.trans (k.mono h.2.2.size)⟩
theorem Own.drewN (h : Own w0 w b S n F V) (m : Nat) : Own w0 (w.drewN m) b S n F V := ⟨h.1, h.2.1, below_drewN h.2.2 m⟩
theorem Own.alloc (h : Own w0 w b S n F V) (o : Obj) : Own w0 (w.alloc o) b S n F V := h.below ((Below.refl _ _).alloc (Nat.le_refl _) o)
theorem Own.kept (h : Own w0 w b S n F V) (k : Kept T w w') (hT : ∀ i, S i → ¬ T i) (hL : ∀ i, T i → w0.heap.size ≤ i) : Own w0 w' b S n F V := ⟨h.1.kept k hT, h.2.1, Kept.below h.2.2 k hL h.2.2.size⟩
theorem Own.new (n : Nat) (w : World) (h1 : 1 ≤ n) (h2 : n ≤ 4096) : Calls Try.prog 9 #[.int .i64 n] w fun e w' => e = .returned (.pointer (some ⟨w.heap.size, 0, none⟩)) ∧ ∃ S, Hid (Own w w' w.heap.size S n [] []) :=
  (new_some n w h1 h2).mono fun e w' ⟨he, ⟨S, h3, h4⟩, h5⟩ => ⟨he, S, Lib.hid ⟨h3, h4, h5⟩⟩
/-- Behind a call that changes the lanes. -/
def Went (w0 w : World) (b : Nat) (S : Nat → Prop) (n : Nat) (F V : List Int) (w' : World) : Prop := ∃ S', Hid (Own w0 w' b S' n F V) ∧ Hid (Goes S S' w w')
theorem Own.went {F' V' : List Int} (h : Own w0 w b S n F V) (k : LnPost w b S n F' V' w') : Went w0 w b S n F' V' w' := by
  obtain ⟨S', h1, h2⟩ := k
  refine ⟨S', Lib.hid ⟨h1, fun i hi => ?_, Kept.below h.2.2 h2.1 h.2.1 h.2.2.size⟩, Lib.hid h2⟩
  rcases h2.2 i hi with h3 | h3
  · exact h.2.1 i h3
  · exact Nat.le_trans h.2.2.size h3
theorem Own.push (h : Own w0 w b S n F V) (c x : Int) : Calls Try.prog 13 #[.pointer (some ⟨b, 0, none⟩), .int .i64 c, .int .i64 x] w fun e w' => e = .returned (.int .i64 (errP n F V c)) ∧ Went w0 w b S n (pushF n F c x) (pushV n V c x) w' :=
  (push_any c x h.1).mono fun e w' ⟨he, hl⟩ => ⟨he, h.went hl⟩
theorem Own.pop (h : Own w0 w b S n F V) : Calls Try.prog 15 #[.pointer (some ⟨b, 0, none⟩)] w fun e w' => e = .returned (.tuple #[.int .i64 (hdI F V), .int .i64 (hdC F V), .bool (hdB F V)]) ∧ Went w0 w b S n (popF F) (popV F V) w' :=
  (pop_any h.1).mono fun e w' ⟨he, hl⟩ => ⟨he, h.went hl⟩
theorem Own.len (h : Own w0 w b S n F V) (c : Int) : Calls Try.prog 14 #[.pointer (some ⟨b, 0, none⟩), .int .i64 c] w fun e w' => e = .returned (.int .i64 ((laneL F V c).length : Nat)) ∧ w = w' := len_any c h.1
theorem Own.free (h : Own w0 w b S n F V) (c : Int) : Calls Try.prog 18 #[.pointer (some ⟨b, 0, none⟩), .int .i64 c] w fun e w' => e = .returned (.int .i64 (freeN n F V c : Nat)) ∧ ∃ m, w' = w.drewN m := free_any c h.1
end

theorem alive_any (w : World) : Calls Try.prog 10 #[] w fun e w' => e = .returned (.bool true) ∧ Below w.heap.size w w' := by
  have HN := Lib.hid (fun w => Own.new 2 w (by omega) (by omega))
  go_enter Try.func10, Try.ntmps10
  go_wp2_with fail
  refine (HN.out _).mono ?_
  rintro e w1 ⟨rfl, S1, O1⟩
  have H1 := O1.out.push 1 3
  rw [show errP 2 [] [] 1 = 0 from rfl, show pushF 2 [] 1 3 = [] from rfl, show pushV 2 [] 1 3 = [3] from rfl] at H1
  have H2 := Lib.hid H1
  clear H1
  go_wp2_with fail
  refine H2.out.mono ?_
  rintro e w2 ⟨rfl, S2, O2, _⟩
  have H1 := O2.out.push 0 5
  rw [show errP 2 [] [3] 0 = 0 from rfl, show pushF 2 [] 0 5 = [5] from rfl, show pushV 2 [3] 0 5 = [3] from rfl] at H1
  have H3 := Lib.hid H1
  clear H1 H2 O1
  go_wp2_with fail
  refine H3.out.mono ?_
  rintro e w3 ⟨rfl, S3, O3, _⟩
  clear H3 O2
  have H4 : Hid (Calls Try.prog 17 #[.pointer (some ⟨w.heap.size, 0, none⟩), .int .i64 1] w3 (ListPost w3 [5, 3])) := Lib.hid (ahead_any 1 O3.out.1)
  go_wp2_with fail
  refine H4.out.mono ?_
  rintro e w4 ⟨v, rfl, ho, hb⟩
  have O4 := Lib.hid (O3.out.below hb)
  obtain ⟨a, cp, rfl, _, _, _, hi⟩ := ints_of_owns (S := S3) ho (fun i hi hs => by have := (ho.lt i hi).1; have := O3.out.1.lt i hs; omega)
  have HI := Lib.hid hi
  have H5 := Lib.hid O4.out.pop
  clear ho hb hi H4 O3
  go_wp2_with fail
  refine H5.out.mono ?_
  rintro e w5 ⟨rfl, S5, O5, G5⟩
  rw [show hdI [5] [3] = 5 from rfl, show hdC [5] [3] = 0 from rfl, show hdB [5] [3] = true from rfl]
  have I5 : Hid (IntsAt (w5.alloc (.cells #[.int .i64 5, .int .i64 3] 3)) (fun _ => False) a [5, 3]) := Lib.hid ((HI.out.kept (G5.out.1.alloc _) (fun _ _ h => h)).other (fun _ _ h => h.elim))
  have J5 : Hid (IntsAt (w5.alloc (.cells #[.int .i64 5, .int .i64 3] 3)) (fun _ => False) (some ⟨w5.heap.size, 0, none⟩) [5, 3]) := Lib.hid (IntsAt.of_blk (Blk.new w5 3 #[.int .i64 5, .int .i64 3]) (fun h => h))
  have H6 : Hid (Calls Try.prog 16 #[.slice a 2 cp, .slice (some ⟨w5.heap.size, 0, none⟩) 2 2] (w5.alloc (.cells #[.int .i64 5, .int .i64 3] 3)) fun e w' => e = .returned (.bool true) ∧ ∃ q, w' = (w5.alloc (.cells #[.int .i64 5, .int .i64 3] 3)).drewN q) := Lib.hid (equal_same I5.out J5.out rfl (by omega))
  have O6 : Hid (Own w (w5.alloc (.cells #[.int .i64 5, .int .i64 3] 3)) w.heap.size S5 2 [] [3]) := Lib.hid (O5.out.alloc _)
  clear H5 O4 HI G5 O5
  go_wp2_with fail
  refine H6.out.mono ?_
  rintro e w7 ⟨rfl, q, hq⟩
  have O7 : Hid (Own w w7 w.heap.size S5 2 [] [3]) := by rw [hq]; exact Lib.hid (O6.out.drewN q)
  have H7 := Lib.hid (O7.out.len 1)
  clear hq H6 O6 I5 J5
  go_wp2_with fail
  refine H7.out.mono ?_
  rintro e w' ⟨rfl, rfl⟩
  rw [show laneL [] [3] 1 = [3] from rfl]
  have H8 := Lib.hid (O7.out.free 1)
  clear H7
  go_wp2_with fail
  refine H8.out.mono ?_
  rintro e w' ⟨rfl, m, rfl⟩
  rw [show freeN 2 [] [3] 1 = 1 from rfl]
  have HB := Lib.hid (O7.out.drewN m).2.2
  clear H8 O7
  go_wp2_with fail
  go_ret
  exact ⟨rfl, HB.out⟩
end Go.Proofs.Ytlmjhggnecmggaa
