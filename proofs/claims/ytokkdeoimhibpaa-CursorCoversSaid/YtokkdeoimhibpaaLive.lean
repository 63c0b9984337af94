/- alive: the chapter's example; a law's own cursor. -/
import Derived.Test.YtokkdeoimhibpaaRef
namespace Go.Proofs.Ytokkdeoimhibpaa
open Go Go.RowKit
set_option linter.unusedVariables false
set_option linter.unusedSimpArgs false

/-- A cursor at s, made since w0. -/
def Own (w0 w : World) (c s : Nat) : Prop := Cur w c s ∧ w0.heap.size ≤ c ∧ Below w0.heap.size w0 w
section
variable {w0 w w' : World} {c s : Nat}
theorem Own.below (h : Own w0 w c s) (k : Below w.heap.size w w') : Own w0 w' c s := ⟨h.1.below k h.1.lt, h.2.1, h.2.2.trans (k.mono h.2.2.size)⟩
theorem Own.drewN (h : Own w0 w c s) (n : Nat) : Own w0 (w.drewN n) c s := ⟨h.1, h.2.1, ⟨h.2.2.os, h.2.2.tape, h.2.2.output, h.2.2.size, h.2.2.block⟩⟩
theorem Own.kept {s' : Nat} (h : Own w0 w c s) (k : Kept (fun i => i = c) w w') (hc : Cur w' c s') : Own w0 w' c s' := ⟨hc, h.2.1, Kept.below h.2.2 k (fun i hi => by rw [hi]; exact h.2.1) h.2.2.size⟩
theorem Own.alloc (h : Own w0 w c s) (o : Obj) : Own w0 (w.alloc o) c s := h.below ((Below.refl _ w).alloc (Nat.le_refl _) o)
theorem Own.far (h : Own w0 w c s) {p : Addr} (hp : c ≠ p.block) (hb : w0.heap.size ≤ p.block) (u : Value) : Own w0 (w.setCell p u) c s := ⟨h.1.far hp u, h.2.1, h.2.2.setCell hb u⟩
theorem Own.new (h1 : w0.heap.size ≤ c) (h2 : Cur w c 0) (h3 : Below w0.heap.size w0 w) : Own w0 w c 0 := ⟨h2, h1, h3⟩
theorem Own.sweep (h : Own w0 w c s) (a : Option Addr) (cap : Nat) (L : List Bool) (v p : Int) (hs : s ≤ 100) (hL : L.length ≤ 100) (hb : Bools w (fun i => i = c) a L) :
    Calls Try.prog 13 #[.pointer (some ⟨c, 0, none⟩), .slice a L.length cap, .int .i64 v, .int .i64 p] w fun e w' =>
      ∃ (m : Nat) (a1 : Option Addr) (cp : Nat), e = .returned (.tuple #[.slice a1 (paidZ L s m).length cp, .int .i64 m]) ∧ Hid (Stop L s v p m) ∧ Hid (IntsAt w' (fun i => i < w.heap.size) a1 (paidZ L s m)) ∧ Hid (Own w0 w' c (posN L.length s m)) ∧ Hid (Kept (fun i => i = c) w w') :=
  (sweep_any c s a cap L v p w h.1 hs hL hb).mono fun _ _ ⟨m, a1, cp, he, h1, h2, h3, h4⟩ => ⟨m, a1, cp, he, Lib.hid h1, h2, Lib.hid (h.kept h4 h3.out), Lib.hid h4⟩
/-- .. where it is known how many visits it makes. -/
theorem Own.sweep_to (h : Own w0 w c s) (a : Option Addr) (cap n m q : Nat) (L : List Bool) (P : List Int) (s' : Nat) (v p : Int) (hs : s ≤ 100) (hL : L.length ≤ 100) (hb : Bools w (fun i => i = c) a L) (hst : Stop L s v p m) (hn : L.length = n) (hP : paidZ L s m = P) (hq : P.length = q) (hs' : posN n s m = s') :
    Calls Try.prog 13 #[.pointer (some ⟨c, 0, none⟩), .slice a n cap, .int .i64 v, .int .i64 p] w fun e w' =>
      ∃ (a1 : Option Addr) (cp : Nat), e = .returned (.tuple #[.slice a1 q cp, .int .i64 m]) ∧ Hid (IntsAt w' (fun i => i < w.heap.size) a1 P) ∧ Hid (Own w0 w' c s') ∧ Hid (Kept (fun i => i = c) w w') := by
  subst hn
  refine (h.sweep a cap L v p hs hL hb).mono ?_
  rintro e w' ⟨m', a1, cp, he, h1, h2, h3, h4⟩
  obtain rfl := h1.out.unique hst
  rw [hP] at he h2
  rw [hq] at he
  rw [hs'] at h3
  exact ⟨a1, cp, he, h2, h3, h4⟩
end

def la : List Bool := [true, false, false, true, false]
def lb : List Bool := [false, false, false, true, false]
theorem stop_la : Stop la 0 4 1 1 := ⟨.inr (.inr (by decide)), fun j hj => by obtain rfl : j = 0 := by omega
                                                                              decide⟩
theorem stop_lb : Stop lb 1 4 1 3 := ⟨.inr (.inr (by decide)), fun j hj => by
  match j, hj with
  | 0, _ => decide
  | 1, _ => decide
  | 2, _ => decide
  | j + 3, hj => omega⟩
set_option maxHeartbeats 800000 in
theorem alive_any (w : World) : Calls Try.prog 11 #[] w fun e w' => e = .returned (.bool true) ∧ Below w.heap.size w w' := by
  have H9 := Lib.hid (fun w => new_any w)
  go_enter Try.func11, Try.ntmps11
  go_wp2_with fail
  refine (H9.out _).mono ?_
  rintro e w1 ⟨c, rfl, hcw, HC, hb⟩
  have O1 : Hid (Own w (w1.alloc (.cells #[.bool true, .bool false, .bool false, .bool true, .bool false] 4)) c 0) := Lib.hid ((Own.new hcw HC.out hb).alloc _)
  have G1 : Hid (Blk (w1.alloc (.cells #[.bool true, .bool false, .bool false, .bool true, .bool false] 4)) w1.heap.size 4 #[.bool true, .bool false, .bool false, .bool true, .bool false]) := Lib.hid (Blk.new _ _ _)
  have N1 : Hid (w1.heap.size ≠ c ∧ w.heap.size ≤ w1.heap.size) := Lib.hid ⟨fun e => by have := HC.out.lt; omega, hb.size⟩
  clear hb HC hcw
  go_wp2_with fail
  have HS1 : Hid (Calls Try.prog 13 #[.pointer (some ⟨c, 0, none⟩), .slice (some ⟨w1.heap.size, 0, none⟩) 5 5, .int .i64 4, .int .i64 1] (w1.alloc (.cells #[.bool true, .bool false, .bool false, .bool true, .bool false] 4)) fun e w' =>
      ∃ (a1 : Option Addr) (cp : Nat), e = .returned (.tuple #[.slice a1 1 cp, .int .i64 1]) ∧ Hid (IntsAt w' (fun i => i < (w1.alloc (.cells #[.bool true, .bool false, .bool false, .bool true, .bool false] 4)).heap.size) a1 [0]) ∧ Hid (Own w w' c 1) ∧ Hid (Kept (fun i => i = c) (w1.alloc (.cells #[.bool true, .bool false, .bool false, .bool true, .bool false] 4)) w')) :=
    Lib.hid (O1.out.sweep_to (some ⟨w1.heap.size, 0, none⟩) 5 5 1 1 la [0] 1 4 1 (by decide) (by decide) (Bools.of_blk G1.out N1.out.1) stop_la rfl rfl rfl rfl)
  generalize hg : w1.heap.size = g at *
  generalize (w1.alloc (.cells #[.bool true, .bool false, .bool false, .bool true, .bool false] 4)) = w2 at *
  clear hg
  refine HS1.out.mono ?_
  rintro e w3 ⟨a1, cp1, rfl, I3, O3, K3⟩
  have G3 : Hid (Blk w3 g 4 #[.bool true, .bool false, .bool false, .bool true, .bool false]) := Lib.hid (G1.out.kept K3.out N1.out.1)
  have gl := G1.out.lt
  have cl := O1.out.1.lt
  have f3 := G3.out.frozen 0
  have x3 : w3.cell? ⟨g, 0, none⟩ = some (.bool true) := G3.out.cell 0
  have G4 : Hid (Blk (w3.setCell ⟨g, 0, none⟩ (.bool false)) g 4 #[.bool false, .bool false, .bool false, .bool true, .bool false]) := Lib.hid (G3.out.set_ 0 _)
  have O4 : Hid (Own w (w3.setCell ⟨g, 0, none⟩ (.bool false)) c 1) := Lib.hid (O3.out.far (p := ⟨g, 0, none⟩) (Ne.symm N1.out.1) N1.out.2 _)
  have I4 : Hid (IntsAt (w3.setCell ⟨g, 0, none⟩ (.bool false)) (fun i => i = c) a1 [0]) := Lib.hid ((I3.out.other (T := fun i => i = c ∨ i = g) (fun i _ h => by
    rcases h with rfl | rfl
    · exact cl
    · exact gl)).kept (T := fun i => i = g) (Kept.setCell (S := fun i => i = g) (p := ⟨g, 0, none⟩) (Kept.refl _ w3) (.inl rfl) _) (fun i _ h => .inr h) |>.other (fun i _ h => .inl h))
  clear HS1 G1 O1 I3 O3 K3 G3
  have HS4 : Hid (Calls Try.prog 13 #[.pointer (some ⟨c, 0, none⟩), .slice (some ⟨g, 0, none⟩) 5 5, .int .i64 4, .int .i64 1] (w3.setCell ⟨g, 0, none⟩ (.bool false)) fun e w' =>
      ∃ (a1 : Option Addr) (cp : Nat), e = .returned (.tuple #[.slice a1 1 cp, .int .i64 3]) ∧ Hid (IntsAt w' (fun i => i < (w3.setCell ⟨g, 0, none⟩ (.bool false)).heap.size) a1 [3]) ∧ Hid (Own w w' c 4) ∧ Hid (Kept (fun i => i = c) (w3.setCell ⟨g, 0, none⟩ (.bool false)) w')) :=
    Lib.hid (O4.out.sweep_to (some ⟨g, 0, none⟩) 5 5 3 1 lb [3] 4 4 1 (by decide) (by decide) (Bools.of_blk G4.out N1.out.1) stop_lb rfl rfl rfl rfl)
  go_wp2_with fail
  refine HS4.out.mono ?_
  rintro e w5 ⟨a2, cp2, rfl, I5, O5, K5⟩
  have J5 : Hid (IntsAt w5 (fun _ => False) a1 [0]) := Lib.hid ((I4.out.kept K5.out (fun _ _ h => h)).other (fun _ _ h => h.elim))
  have I5' : Hid (IntsAt w5 (fun _ => False) a2 [3]) := Lib.hid (I5.out.other (fun _ _ h => h.elim))
  clear HS4 G4 O4 I4 I5 K5 x3 f3
  have O6 := Lib.hid (O5.out.alloc (.cells #[.int .i64 0] 3))
  have J6 : Hid (IntsAt (w5.alloc (.cells #[.int .i64 0] 3)) (fun _ => False) a1 [0]) := Lib.hid (J5.out.below ((Below.refl _ w5).alloc (Nat.le_refl _) _))
  have I6 : Hid (IntsAt (w5.alloc (.cells #[.int .i64 0] 3)) (fun _ => False) a2 [3]) := Lib.hid (I5'.out.below ((Below.refl _ w5).alloc (Nat.le_refl _) _))
  have L6 : Hid (IntsAt (w5.alloc (.cells #[.int .i64 0] 3)) (fun _ => False) (some ⟨w5.heap.size, 0, none⟩) [0]) := Lib.hid (IntsAt.of_blk (Blk.new w5 3 #[.int .i64 0]) (fun h => h))
  go_wp2_with fail
  refine (equal_same (n := 1) J6.out L6.out rfl (by decide)).mono ?_
  rintro e w7 ⟨rfl, m, rfl⟩
  have O7 := Lib.hid (O6.out.drewN m)
  have I7 := Lib.hid (I6.out.drewN m)
  clear O5 O6 J5 J6 I5' I6 L6
  generalize (w5.alloc (.cells #[.int .i64 0] 3)).drewN m = w7 at *
  have O8 := Lib.hid (O7.out.alloc (.cells #[.int .i64 3] 3))
  have I8 : Hid (IntsAt (w7.alloc (.cells #[.int .i64 3] 3)) (fun _ => False) a2 [3]) := Lib.hid (I7.out.below ((Below.refl _ w7).alloc (Nat.le_refl _) _))
  have L8 : Hid (IntsAt (w7.alloc (.cells #[.int .i64 3] 3)) (fun _ => False) (some ⟨w7.heap.size, 0, none⟩) [3]) := Lib.hid (IntsAt.of_blk (Blk.new w7 3 #[.int .i64 3]) (fun h => h))
  go_wp2_with fail
  refine (equal_same (n := 1) I8.out L8.out rfl (by decide)).mono ?_
  rintro e w9 ⟨rfl, m2, rfl⟩
  have O9 := Lib.hid (O8.out.drewN m2)
  clear O7 O8 I7 I8 L8
  generalize (w7.alloc (.cells #[.int .i64 3] 3)).drewN m2 = w9 at *
  have HA : Hid (Calls Try.prog 15 #[.pointer (some ⟨c, 0, none⟩)] w9 fun e w' => e = .returned (.int .i64 4) ∧ w9 = w') := Lib.hid (at_any c 4 w9 O9.out.1)
  have HD : Hid (Calls Try.prog 16 #[.pointer (some ⟨c, 0, none⟩), .int .i64 5, .int .i64 3] w9 fun e w' => e = .returned (.int .i64 4) ∧ w9 = w') := Lib.hid (by
    refine (distance_any c 4 5 3 w9 O9.out.1 (by decide) (by decide) (by decide) (by decide)).mono ?_
    rintro e w' ⟨d, he, hd, hw⟩
    have : (d : Int) = 4 := by rw [← hd]; rfl
    exact ⟨by rw [he, this], hw⟩)
  have HB : Hid (Calls Try.prog 17 #[.int .i64 5, .int .i64 4, .int .i64 1] w9 fun e w' => e = .returned (.int .i64 5) ∧ w9 = w') := Lib.hid (blocks_any 5 4 1 w9 (by decide) (by decide) (by decide) (by decide))
  go_wp2_with fail
  refine HA.out.mono ?_
  rintro e w' ⟨rfl, rfl⟩
  go_wp2_with fail
  refine HD.out.mono ?_
  rintro e w' ⟨rfl, rfl⟩
  go_wp2_with fail
  refine HB.out.mono ?_
  rintro e w' ⟨rfl, rfl⟩
  go_wp2_with fail
  go_ret
  exact ⟨rfl, O9.out.2.2⟩
end Go.Proofs.Ytokkdeoimhibpaa
