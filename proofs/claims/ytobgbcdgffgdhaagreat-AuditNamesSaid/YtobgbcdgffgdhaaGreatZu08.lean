/- Part 8 of 29: L08Ints L03Holds L03Right0 L03Right1 L03Right2 L03Right3 L03Right L09Sweep L13Amts L13UOwn L03Entries. -/
import Derived.Test.YtobgbcdgffgdhaaGreatZu04
import Derived.Shelf.Slices.Empties2
import Derived.Test.YtobgbcdgffgdhaaGreatShelf
namespace Go.Proofs.YtobgbcdgffgdhaaGreat
set_option linter.unusedVariables false
set_option linter.unusedSimpArgs false
section
set_option maxRecDepth 100000
open Go.RowKit
theorem int_info : (Tryz.prog.info? 3).map (fun i => (i.zero, i.size, i.bytes)) = some (some (.int .i64 0), 1, 8) := by kernel_rfl
def IntsAt (w : World) (S : Nat → Prop) (a : Option Addr) (L : List Int) : Prop :=
 0 < L.length → ∃ b off, a = some ⟨b, off, none⟩ ∧ ¬ S b ∧ b < w.heap.size ∧ ∀ j, j < L.length → w.cell? ⟨b, off + j, none⟩ = some (.int .i64 (L.getD j 0))
section
variable {w w' : World} {S T : Nat → Prop} {a : Option Addr} {L : List Int}
theorem IntsAt.nil (w : World) (S : Nat → Prop) (a : Option Addr) : IntsAt w S a [] := fun h => by simp at h
theorem IntsAt.kept (h : IntsAt w S a L) (k : Kept T w w') (hT : ∀ i, i < w.heap.size → T i → S i) : IntsAt w' S a L := fun hl => by
 obtain ⟨b, off, e, hn, hb, hc⟩ := h hl
 exact ⟨b, off, e, hn, Nat.lt_of_lt_of_le hb k.size, fun j hj => k.cell (fun ht => hn (hT _ hb ht)) (hc j hj)⟩
theorem IntsAt.other (h : IntsAt w S a L) (hT : ∀ i, i < w.heap.size → T i → S i) : IntsAt w T a L := fun hl => by
 obtain ⟨b, off, e, hn, hb, hc⟩ := h hl
 exact ⟨b, off, e, fun ht => hn (hT _ hb ht), hb, hc⟩
theorem IntsAt.below (h : IntsAt w S a L) (hb : Below w.heap.size w w') : IntsAt w' S a L := fun hl => by
 obtain ⟨b, off, e, hn, hb2, hc⟩ := h hl
 exact ⟨b, off, e, hn, Nat.lt_of_lt_of_le hb2 hb.size, fun j hj => (hb.cell (p := ⟨b, off + j, none⟩) hb2).trans (hc j hj)⟩
theorem IntsAt.drewN (h : IntsAt w S a L) (n : Nat) : IntsAt (w.drewN n) S a L := h
theorem IntsAt.of_blk {g : Nat} {t : TypeId} (h : Blk w g t (L.map (Value.int .i64)).toArray) (hn : ¬ S g) : IntsAt w S (some ⟨g, 0, none⟩) L := fun hl =>
 ⟨g, 0, rfl, hn, h.lt, fun j hj => by
  rw [Nat.zero_add, h.cell, List.getElem?_toArray, List.getElem?_map, List.getD_eq_getElem?_getD, List.getElem?_eq_getElem hj]
  rfl⟩
theorem equal_lens (a1 a2 : Option Addr) (n c m d : Nat) (w : World) (hnm : n ≠ m) :
  Calls Tryz.prog 14 #[.slice a1 n c, .slice a2 m d] w fun e w' => e = .returned (.bool false) ∧ w' = w := Any.slices_Equal_int_lens Tryz.lays111 a1 a2 n c m d w hnm
theorem equal_any {a2 : Option Addr} {L2 : List Int} {c d n m : Nat} {S2 : Nat → Prop} (h1 : IntsAt w S a L) (h2 : IntsAt w S2 a2 L2) (hn : L.length = n) (hm : L2.length = m) (bn : n ≤ 9223372036854775807) (bm : m ≤ 9223372036854775807) :
  CallD 14 #[.slice a n c, .slice a2 m d] w (.bool (decide (L = L2))) := by
 subst hn hm
 by_cases e : L.length = L2.length
 ·by_cases h0 : L.length = 0
  ·have x1 : L = [] := List.eq_nil_of_length_eq_zero h0
   have x2 : L2 = [] := List.eq_nil_of_length_eq_zero (by omega)
   subst x1 x2
   exact (Tryz.slices_Equal_int_empty a a2 c 0 d w (by omega)).mono fun e w' ⟨he, hw⟩ => ⟨by simpa using he, 0, hw⟩
  ·obtain ⟨b1, o1, rfl, _, _, c1⟩ := h1 (by omega)
   obtain ⟨b2', o2, rfl, _, _, c2⟩ := h2 (by omega)
   exact (Tryz.slices_Equal_int b1 o1 L.length c b2' o2 L2.length d L L2 w (by omega) (by omega) bn bm c1 c2).mono fun e w' ⟨he, hw⟩ => ⟨by rw [he, List.take_length, List.take_length]; exact ret_bool (by rw [Bool.eq_iff_iff]; simp), hw⟩
 ·exact (equal_lens a a2 L.length c L2.length d w e).mono fun e' w' ⟨he, hw⟩ => ⟨by rw [he]; exact ret_bool (by symm; simp; rintro rfl; exact e rfl), 0, hw⟩
theorem equal_same {a2 : Option Addr} {c d n : Nat} {S2 : Nat → Prop} (h1 : IntsAt w S a L) (h2 : IntsAt w S2 a2 L) (hn : L.length = n) (b1 : n ≤ 9223372036854775807) :
  CallD 14 #[.slice a n c, .slice a2 n d] w (.bool true) := by
 have := equal_any h1 h2 hn hn b1 b1 (c := c) (d := d)
 simpa using this
theorem ints_of_owns {base n : Nat} {v : Value} (h : w.ownsRow base 3 1 v n (L.map (Value.int .i64))) (hS : ∀ i, v.ownBlock = some i → ¬ S i) : ∃ a cp, v = .slice a n cp ∧ L.length = n ∧ n ≤ cp ∧ cp ≤ maxLen ∧ IntsAt w S a L := by
 have hl := h.1
 rw [List.length_map, Nat.mul_one] at hl
 rcases h.2 with ⟨rfl, h2⟩ | ⟨g, cp, cur, rfl, h1, h3, h4, h5, h6, h7⟩
 ·subst h2
  obtain rfl := List.eq_nil_of_length_eq_zero hl
  exact ⟨none, 0, rfl, rfl, by omega, by unfold maxLen; omega, IntsAt.nil _ _ _⟩
 ·refine ⟨_, cp, rfl, hl, h4, h5, fun h0 => ⟨g, 0, rfl, hS g rfl, (Array.getElem?_eq_some_iff.1 h3).1, fun j hj => ?_⟩⟩
  have := h.cells (g := g) rfl j (.int .i64 (L.getD j 0)) (by rw [List.getElem?_map, List.getD_eq_getElem?_getD, List.getElem?_eq_getElem hj]; rfl)
  rwa [add_plain] at this
theorem int_app : ∃ i, Tryz.prog.info? 3 = some i ∧ i.zero = some (.int .i64 0) ∧ i.size = 1 ∧ i.bytes = 8 := by
 have h := int_info
 cases hi : Tryz.prog.info? 3 with
 | none => rw [hi] at h; cases h
 | some i =>
  rw [hi] at h
  simp at h
  exact ⟨i, rfl, h.1, h.2.1, h.2.2⟩
end
end
section
set_option maxRecDepth 100000
open Go.RowKit
theorem btw_yes {v lo hi : Int} (h : lo ≤ v) (h' : v ≤ hi) : btw v lo hi = true := by unfold btw; simp; omega
theorem btw_no {v lo hi : Int} (h : v < lo ∨ hi < v) : btw v lo hi = false := by unfold btw; simp; omega
theorem withinI_any (v lo hi : Int) (w : World) :
  CallW 147 #[.int .i64 v, .int .i64 lo, .int .i64 hi] w (.bool (btw v lo hi)) := by
 by_cases h1 : lo ≤ v
 ·have hd : decide (lo ≤ v) = true := by simpa using h1
  by_cases h2 : v ≤ hi
  ·have H := Lib.hid (btw_yes h1 h2)
   go_enter Tryz.func147, Tryz.ntmps147
   go_wp2
   go_ret
   exact ⟨ret_bool H.out.symm, rfl⟩
  ·have hd2 : decide (v ≤ hi) = false := by simpa using h2
   have H := Lib.hid (btw_no (v := v) (lo := lo) (hi := hi) (.inr (by omega)))
   go_enter Tryz.func147, Tryz.ntmps147
   go_wp2
   go_ret
   exact ⟨ret_bool H.out.symm, rfl⟩
 ·have hd : decide (lo ≤ v) = false := by simpa using h1
  have H := Lib.hid (btw_no (v := v) (lo := lo) (hi := hi) (.inl (by omega)))
  go_enter Tryz.func147, Tryz.ntmps147
  go_wp2
  go_ret
  exact ⟨ret_bool H.out.symm, rfl⟩
theorem withinU_any (v lo hi : Int) (w : World) :
  CallW 152 #[.int .u64 v, .int .u64 lo, .int .u64 hi] w (.bool (btw v lo hi)) := by
 by_cases h1 : lo ≤ v
 ·have hd : decide (lo ≤ v) = true := by simpa using h1
  by_cases h2 : v ≤ hi
  ·have H := Lib.hid (btw_yes h1 h2)
   go_enter Tryz.func152, Tryz.ntmps152
   go_wp2
   go_ret
   exact ⟨ret_bool H.out.symm, rfl⟩
  ·have hd2 : decide (v ≤ hi) = false := by simpa using h2
   have H := Lib.hid (btw_no (v := v) (lo := lo) (hi := hi) (.inr (by omega)))
   go_enter Tryz.func152, Tryz.ntmps152
   go_wp2
   go_ret
   exact ⟨ret_bool H.out.symm, rfl⟩
 ·have hd : decide (lo ≤ v) = false := by simpa using h1
  have H := Lib.hid (btw_no (v := v) (lo := lo) (hi := hi) (.inl (by omega)))
  go_enter Tryz.func152, Tryz.ntmps152
  go_wp2
  go_ret
  exact ⟨ret_bool H.out.symm, rfl⟩
theorem between_any (v lo hi : Int) (w : World) :
  CallW 52 #[.int .i64 v, .int .i64 lo, .int .i64 hi] w (.bool (btw v lo hi)) := by
 by_cases h1 : lo ≤ v
 ·have hd : decide (lo ≤ v) = true := by simpa using h1
  by_cases h2 : v ≤ hi
  ·have H := Lib.hid (btw_yes h1 h2)
   go_enter Tryz.func52, Tryz.ntmps52
   go_wp2
   go_ret
   exact ⟨ret_bool H.out.symm, rfl⟩
  ·have hd2 : decide (v ≤ hi) = false := by simpa using h2
   have H := Lib.hid (btw_no (v := v) (lo := lo) (hi := hi) (.inr (by omega)))
   go_enter Tryz.func52, Tryz.ntmps52
   go_wp2
   go_ret
   exact ⟨ret_bool H.out.symm, rfl⟩
 ·have hd : decide (lo ≤ v) = false := by simpa using h1
  have H := Lib.hid (btw_no (v := v) (lo := lo) (hi := hi) (.inl (by omega)))
  go_enter Tryz.func52, Tryz.ntmps52
  go_wp2
  go_ret
  exact ⟨ret_bool H.out.symm, rfl⟩
theorem holds0 (bp bc : Nat) (c : Nat → Int) (w : World) (hp : w.cell? ⟨bp, 0, none⟩ = some (.pointer (some ⟨bc, 0, none⟩))) (hc : Blk w bc 30 (cellsOf c)) :
  CallD 146 #[.pointer (some ⟨bp, 0, none⟩)] w (.bool (rightB c 0)) := by
 have c0 := cel hc 0
 clear hc
 go_enter Tryz.func146, Tryz.ntmps146
 go_wp2_with (first | (go_at_call 147; refine (withinI_any _ _ _ _).mono ?_; rintro e w' ⟨rfl, rfl⟩))
 go_ret
 exact ⟨rfl, 0, rfl⟩
theorem holds1 (bp bc : Nat) (c : Nat → Int) (w : World) (hp : w.cell? ⟨bp, 0, none⟩ = some (.pointer (some ⟨bc, 0, none⟩))) (hc : Blk w bc 30 (cellsOf c)) :
  CallD 148 #[.pointer (some ⟨bp, 0, none⟩)] w (.bool (rightB c 1)) := by
 have c1 := cel hc 1
 clear hc
 go_enter Tryz.func148, Tryz.ntmps148
 go_wp2_with (first | (go_at_call 147; refine (withinI_any _ _ _ _).mono ?_; rintro e w' ⟨rfl, rfl⟩))
 go_ret
 exact ⟨rfl, 0, rfl⟩
theorem holds2 (bp bc : Nat) (c : Nat → Int) (w : World) (hp : w.cell? ⟨bp, 0, none⟩ = some (.pointer (some ⟨bc, 0, none⟩))) (hc : Blk w bc 30 (cellsOf c)) :
  CallD 149 #[.pointer (some ⟨bp, 0, none⟩)] w (.bool (rightB c 2)) := by
 have c2 := cel hc 2
 clear hc
 go_enter Tryz.func149, Tryz.ntmps149
 go_wp2
 go_ret
 exact ⟨rfl, 0, rfl⟩
theorem holds3 (bp bc : Nat) (c : Nat → Int) (w : World) (hp : w.cell? ⟨bp, 0, none⟩ = some (.pointer (some ⟨bc, 0, none⟩))) (hc : Blk w bc 30 (cellsOf c)) :
  CallD 150 #[.pointer (some ⟨bp, 0, none⟩)] w (.bool (rightB c 3)) := by
 have c3 := cel hc 3
 have c2 := cel hc 2
 clear hc
 go_enter Tryz.func150, Tryz.ntmps150
 go_wp2_with (fail)
 go_quiet (fail)
 go_wp2_with (fail)
 go_ret
 exact ⟨rfl, _, rfl⟩
theorem holds4 (bp bc : Nat) (c : Nat → Int) (w : World) (hp : w.cell? ⟨bp, 0, none⟩ = some (.pointer (some ⟨bc, 0, none⟩))) (hc : Blk w bc 30 (cellsOf c)) :
  CallD 151 #[.pointer (some ⟨bp, 0, none⟩)] w (.bool (rightB c 4)) := by
 have c4 := cel hc 4
 have c3 := cel hc 3
 clear hc
 go_enter Tryz.func151, Tryz.ntmps151
 go_wp2_with (fail)
 go_quiet ((go_at_call 152; exact quiet_left (withinU_any _ _ _ _)))
 go_wp2_with (fail)
 go_ret
 exact ⟨rfl, _, rfl⟩
theorem holds5 (bp bc : Nat) (c : Nat → Int) (w : World) (hp : w.cell? ⟨bp, 0, none⟩ = some (.pointer (some ⟨bc, 0, none⟩))) (hc : Blk w bc 30 (cellsOf c)) :
  CallD 153 #[.pointer (some ⟨bp, 0, none⟩)] w (.bool (rightB c 5)) := by
 have c5 := cel hc 5
 have c2 := cel hc 2
 clear hc
 go_enter Tryz.func153, Tryz.ntmps153
 go_wp2_with (fail)
 go_quiet ((go_at_call 152; exact quiet_left (withinU_any _ _ _ _)))
 go_wp2_with (fail)
 go_ret
 exact ⟨rfl, _, rfl⟩
theorem holds6 (bp bc : Nat) (c : Nat → Int) (w : World) (hp : w.cell? ⟨bp, 0, none⟩ = some (.pointer (some ⟨bc, 0, none⟩))) (hc : Blk w bc 30 (cellsOf c)) :
  CallD 154 #[.pointer (some ⟨bp, 0, none⟩)] w (.bool (rightB c 6)) := by
 have c6 := cel hc 6
 have c3 := cel hc 3
 have c4 := cel hc 4
 clear hc
 go_enter Tryz.func154, Tryz.ntmps154
 go_wp2_with (fail)
 go_quiet ((go_at_call 152; exact quiet_left (withinU_any _ _ _ _)))
 go_wp2_with (fail)
 go_ret
 exact ⟨rfl, _, rfl⟩
theorem holds7 (bp bc : Nat) (c : Nat → Int) (w : World) (hp : w.cell? ⟨bp, 0, none⟩ = some (.pointer (some ⟨bc, 0, none⟩))) (hc : Blk w bc 30 (cellsOf c)) :
  CallD 155 #[.pointer (some ⟨bp, 0, none⟩)] w (.bool (rightB c 7)) := by
 have c7 := cel hc 7
 clear hc
 go_enter Tryz.func155, Tryz.ntmps155
 go_wp2_with (first | (go_at_call 152; refine (withinU_any _ _ _ _).mono ?_; rintro e w' ⟨rfl, rfl⟩))
 go_ret
 exact ⟨rfl, 0, rfl⟩
theorem holds8 (bp bc : Nat) (c : Nat → Int) (w : World) (hp : w.cell? ⟨bp, 0, none⟩ = some (.pointer (some ⟨bc, 0, none⟩))) (hc : Blk w bc 30 (cellsOf c)) :
  CallD 156 #[.pointer (some ⟨bp, 0, none⟩)] w (.bool (rightB c 8)) := by
 have c8 := cel hc 8
 clear hc
 go_enter Tryz.func156, Tryz.ntmps156
 go_wp2
 go_ret
 exact ⟨rfl, 0, rfl⟩
theorem holds9 (bp bc : Nat) (c : Nat → Int) (w : World) (hp : w.cell? ⟨bp, 0, none⟩ = some (.pointer (some ⟨bc, 0, none⟩))) (hc : Blk w bc 30 (cellsOf c)) :
  CallD 157 #[.pointer (some ⟨bp, 0, none⟩)] w (.bool (rightB c 9)) := by
 have c9 := cel hc 9
 clear hc
 go_enter Tryz.func157, Tryz.ntmps157
 go_wp2
 go_ret
 exact ⟨rfl, 0, rfl⟩
theorem holds10 (bp bc : Nat) (c : Nat → Int) (w : World) (hp : w.cell? ⟨bp, 0, none⟩ = some (.pointer (some ⟨bc, 0, none⟩))) (hc : Blk w bc 30 (cellsOf c)) :
  CallD 158 #[.pointer (some ⟨bp, 0, none⟩)] w (.bool (rightB c 10)) := by
 have c10 := cel hc 10
 clear hc
 go_enter Tryz.func158, Tryz.ntmps158
 go_wp2_with (first | (go_at_call 147; refine (withinI_any _ _ _ _).mono ?_; rintro e w' ⟨rfl, rfl⟩))
 go_ret
 exact ⟨rfl, 0, rfl⟩
theorem holds11 (bp bc : Nat) (c : Nat → Int) (w : World) (hp : w.cell? ⟨bp, 0, none⟩ = some (.pointer (some ⟨bc, 0, none⟩))) (hc : Blk w bc 30 (cellsOf c)) :
  CallD 159 #[.pointer (some ⟨bp, 0, none⟩)] w (.bool (rightB c 11)) := by
 have c11 := cel hc 11
 have c10 := cel hc 10
 clear hc
 by_cases h1 : c 10 < c 11
 ·have hd : decide (c 10 < c 11) = true := by simpa using h1
  have H := Lib.hid (show rightB c 11 = decide (c 11 ≤ 1048576) by simp [rightB, h1])
  go_enter Tryz.func159, Tryz.ntmps159
  go_wp2_with (fail)
  go_quiet (fail)
  go_wp2_with (fail)
  go_ret
  exact ⟨ret_bool H.out.symm, _, rfl⟩
 ·have hd : decide (c 10 < c 11) = false := by simpa using h1
  have H := Lib.hid (show rightB c 11 = false by simp [rightB, h1])
  go_enter Tryz.func159, Tryz.ntmps159
  go_wp2_with (fail)
  go_quiet (fail)
  go_wp2_with (fail)
  go_ret
  exact ⟨ret_bool H.out.symm, _, rfl⟩
theorem holds12 (bp bc : Nat) (c : Nat → Int) (w : World) (hp : w.cell? ⟨bp, 0, none⟩ = some (.pointer (some ⟨bc, 0, none⟩))) (hc : Blk w bc 30 (cellsOf c)) :
  CallD 160 #[.pointer (some ⟨bp, 0, none⟩)] w (.bool (rightB c 12)) := by
 have c12 := cel hc 12
 clear hc
 go_enter Tryz.func160, Tryz.ntmps160
 go_wp2_with (first | (go_at_call 147; refine (withinI_any _ _ _ _).mono ?_; rintro e w' ⟨rfl, rfl⟩))
 go_ret
 exact ⟨rfl, 0, rfl⟩
theorem holds13 (bp bc : Nat) (c : Nat → Int) (w : World) (hp : w.cell? ⟨bp, 0, none⟩ = some (.pointer (some ⟨bc, 0, none⟩))) (hc : Blk w bc 30 (cellsOf c)) :
  CallD 161 #[.pointer (some ⟨bp, 0, none⟩)] w (.bool (rightB c 13)) := by
 have c13 := cel hc 13
 clear hc
 go_enter Tryz.func161, Tryz.ntmps161
 go_wp2_with (first | (go_at_call 147; refine (withinI_any _ _ _ _).mono ?_; rintro e w' ⟨rfl, rfl⟩))
 go_ret
 exact ⟨rfl, 0, rfl⟩
theorem holds14 (bp bc : Nat) (c : Nat → Int) (w : World) (hp : w.cell? ⟨bp, 0, none⟩ = some (.pointer (some ⟨bc, 0, none⟩))) (hc : Blk w bc 30 (cellsOf c)) :
  CallD 162 #[.pointer (some ⟨bp, 0, none⟩)] w (.bool (rightB c 14)) := by
 have c14 := cel hc 14
 clear hc
 go_enter Tryz.func162, Tryz.ntmps162
 go_wp2_with (first | (go_at_call 147; refine (withinI_any _ _ _ _).mono ?_; rintro e w' ⟨rfl, rfl⟩))
 go_ret
 exact ⟨rfl, 0, rfl⟩
theorem holds15 (bp bc : Nat) (c : Nat → Int) (w : World) (hp : w.cell? ⟨bp, 0, none⟩ = some (.pointer (some ⟨bc, 0, none⟩))) (hc : Blk w bc 30 (cellsOf c)) :
  CallD 163 #[.pointer (some ⟨bp, 0, none⟩)] w (.bool (rightB c 15)) := by
 have c15 := cel hc 15
 clear hc
 go_enter Tryz.func163, Tryz.ntmps163
 go_wp2_with (first | (go_at_call 147; refine (withinI_any _ _ _ _).mono ?_; rintro e w' ⟨rfl, rfl⟩))
 go_ret
 exact ⟨rfl, 0, rfl⟩
theorem holds16 (bp bc : Nat) (c : Nat → Int) (w : World) (hp : w.cell? ⟨bp, 0, none⟩ = some (.pointer (some ⟨bc, 0, none⟩))) (hc : Blk w bc 30 (cellsOf c)) :
  CallD 164 #[.pointer (some ⟨bp, 0, none⟩)] w (.bool (rightB c 16)) := by
 have c16 := cel hc 16
 have c14 := cel hc 14
 have c15 := cel hc 15
 clear hc
 by_cases h1 : 0 ≤ c 16
 ·have hd : decide (0 ≤ c 16) = true := by simpa using h1
  have H := Lib.hid (show rightB c 16 = decide (c 16 < min (c 14) (c 15)) by simp [rightB, h1, Int.lt_min])
  go_enter Tryz.func164, Tryz.ntmps164
  go_wp2_with (fail)
  go_quiet (fail)
  go_wp2_with (fail)
  go_ret
  exact ⟨ret_bool H.out.symm, _, rfl⟩
 ·have hd : decide (0 ≤ c 16) = false := by simpa using h1
  have H := Lib.hid (show rightB c 16 = false by simp [rightB, h1])
  go_enter Tryz.func164, Tryz.ntmps164
  go_wp2_with (fail)
  go_quiet (fail)
  go_wp2_with (fail)
  go_ret
  exact ⟨ret_bool H.out.symm, _, rfl⟩
theorem holds17 (bp bc : Nat) (c : Nat → Int) (w : World) (hp : w.cell? ⟨bp, 0, none⟩ = some (.pointer (some ⟨bc, 0, none⟩))) (hc : Blk w bc 30 (cellsOf c)) :
  CallD 165 #[.pointer (some ⟨bp, 0, none⟩)] w (.bool (rightB c 17)) := by
 have c17 := cel hc 17
 clear hc
 go_enter Tryz.func165, Tryz.ntmps165
 go_wp2_with (first | (go_at_call 147; refine (withinI_any _ _ _ _).mono ?_; rintro e w' ⟨rfl, rfl⟩))
 go_ret
 exact ⟨rfl, 0, rfl⟩
theorem holds18 (bp bc : Nat) (c : Nat → Int) (w : World) (hp : w.cell? ⟨bp, 0, none⟩ = some (.pointer (some ⟨bc, 0, none⟩))) (hc : Blk w bc 30 (cellsOf c)) :
  CallD 166 #[.pointer (some ⟨bp, 0, none⟩)] w (.bool (rightB c 18)) := by
 have c18 := cel hc 18
 have c19 := cel hc 19
 clear hc
 go_enter Tryz.func166, Tryz.ntmps166
 go_wp2_with (fail)
 go_quiet (fail)
 go_wp2_with (fail)
 go_ret
 exact ⟨rfl, _, rfl⟩
theorem holds19 (bp bc : Nat) (c : Nat → Int) (w : World) (hp : w.cell? ⟨bp, 0, none⟩ = some (.pointer (some ⟨bc, 0, none⟩))) (hc : Blk w bc 30 (cellsOf c)) :
  CallD 167 #[.pointer (some ⟨bp, 0, none⟩)] w (.bool (rightB c 19)) := by
 have c19 := cel hc 19
 clear hc
 go_enter Tryz.func167, Tryz.ntmps167
 go_wp2_with (first | (go_at_call 152; refine (withinU_any _ _ _ _).mono ?_; rintro e w' ⟨rfl, rfl⟩))
 go_ret
 exact ⟨rfl, 0, rfl⟩
end
section
open Go.RowKit
set_option maxRecDepth 100000 in
theorem right0 (c : Nat → Int) (w : World) :
  CallB 28 #[.agg (cellsOf c), .int .i64 1] w (.bool (rightB c 0)) := by
 unfold cellsOf
 go_enter Tryz.func28, Tryz.ntmps28
 go_wp2_with (first | (go_at_call 52; refine (between_any _ _ _ _).mono ?_; rintro e w' ⟨rfl, rfl⟩))
 go_ret
 exact ⟨rfl, (Below.refl _ _).alloc (Nat.le_refl _) _⟩
set_option maxRecDepth 100000 in
theorem right4 (c : Nat → Int) (w : World) :
  CallB 28 #[.agg (cellsOf c), .int .i64 5] w (.bool (rightB c 4)) := by
 by_cases h1 : c 3 ≤ c 4
 ·have hd : decide (c 3 ≤ c 4) = true := by simpa using h1
  have H := Lib.hid (show rightB c 4 = decide (c 4 ≤ 1152921504606846976) by simp [rightB, btw, most, h1])
  unfold cellsOf
  go_enter Tryz.func28, Tryz.ntmps28
  go_wp2_with (first | (go_at_call 52; refine (between_any _ _ _ _).mono ?_; rintro e w' ⟨rfl, rfl⟩))
  go_ret
  exact ⟨ret_bool H.out.symm, (Below.refl _ _).alloc (Nat.le_refl _) _⟩
 ·have hd : decide (c 3 ≤ c 4) = false := by simpa using h1
  have H := Lib.hid (show rightB c 4 = false by simp [rightB, btw, h1])
  unfold cellsOf
  go_enter Tryz.func28, Tryz.ntmps28
  go_wp2_with (first | (go_at_call 52; refine (between_any _ _ _ _).mono ?_; rintro e w' ⟨rfl, rfl⟩))
  go_ret
  exact ⟨ret_bool H.out.symm, (Below.refl _ _).alloc (Nat.le_refl _) _⟩
set_option maxRecDepth 100000 in
theorem right8 (c : Nat → Int) (w : World) :
  CallB 28 #[.agg (cellsOf c), .int .i64 9] w (.bool (rightB c 8)) := by
 unfold cellsOf
 go_enter Tryz.func28, Tryz.ntmps28
 go_wp2_with (first | (go_at_call 52; refine (between_any _ _ _ _).mono ?_; rintro e w' ⟨rfl, rfl⟩))
 go_ret
 exact ⟨rfl, (Below.refl _ _).alloc (Nat.le_refl _) _⟩
set_option maxRecDepth 100000 in
theorem right12 (c : Nat → Int) (w : World) :
  CallB 28 #[.agg (cellsOf c), .int .i64 13] w (.bool (rightB c 12)) := by
 unfold cellsOf
 go_enter Tryz.func28, Tryz.ntmps28
 go_wp2_with (first | (go_at_call 52; refine (between_any _ _ _ _).mono ?_; rintro e w' ⟨rfl, rfl⟩))
 go_ret
 exact ⟨rfl, (Below.refl _ _).alloc (Nat.le_refl _) _⟩
set_option maxRecDepth 100000 in
theorem right16 (c : Nat → Int) (w : World) :
  CallB 28 #[.agg (cellsOf c), .int .i64 17] w (.bool (rightB c 16)) := by
 by_cases h1 : 0 ≤ c 16
 ·have hd : decide (0 ≤ c 16) = true := by simpa using h1
  by_cases h2 : c 16 < c 14
  ·have hd2 : decide (c 16 < c 14) = true := by simpa using h2
   have H := Lib.hid (show rightB c 16 = decide (c 16 < c 15) by simp [rightB, h1, h2])
   unfold cellsOf
   go_enter Tryz.func28, Tryz.ntmps28
   go_wp2_with (first | (go_at_call 52; refine (between_any _ _ _ _).mono ?_; rintro e w' ⟨rfl, rfl⟩))
   go_ret
   exact ⟨ret_bool H.out.symm, (Below.refl _ _).alloc (Nat.le_refl _) _⟩
  ·have hd2 : decide (c 16 < c 14) = false := by simpa using h2
   have H := Lib.hid (show rightB c 16 = false by simp [rightB, h2])
   unfold cellsOf
   go_enter Tryz.func28, Tryz.ntmps28
   go_wp2_with (first | (go_at_call 52; refine (between_any _ _ _ _).mono ?_; rintro e w' ⟨rfl, rfl⟩))
   go_ret
   exact ⟨ret_bool H.out.symm, (Below.refl _ _).alloc (Nat.le_refl _) _⟩
 ·have hd : decide (0 ≤ c 16) = false := by simpa using h1
  have H := Lib.hid (show rightB c 16 = false by simp [rightB, h1])
  unfold cellsOf
  go_enter Tryz.func28, Tryz.ntmps28
  go_wp2_with (first | (go_at_call 52; refine (between_any _ _ _ _).mono ?_; rintro e w' ⟨rfl, rfl⟩))
  go_ret
  exact ⟨ret_bool H.out.symm, (Below.refl _ _).alloc (Nat.le_refl _) _⟩
end
section
open Go.RowKit
set_option maxRecDepth 100000 in
theorem right1 (c : Nat → Int) (w : World) :
  CallB 28 #[.agg (cellsOf c), .int .i64 2] w (.bool (rightB c 1)) := by
 unfold cellsOf
 go_enter Tryz.func28, Tryz.ntmps28
 go_wp2_with (first | (go_at_call 52; refine (between_any _ _ _ _).mono ?_; rintro e w' ⟨rfl, rfl⟩))
 go_ret
 exact ⟨rfl, (Below.refl _ _).alloc (Nat.le_refl _) _⟩
set_option maxRecDepth 100000 in
theorem right5 (c : Nat → Int) (w : World) :
  CallB 28 #[.agg (cellsOf c), .int .i64 6] w (.bool (rightB c 5)) := by
 by_cases h1 : 1 ≤ c 5
 ·have hd : decide (1 ≤ c 5) = true := by simpa using h1
  have H := Lib.hid (show rightB c 5 = decide (c 5 ≤ c 2) by simp [rightB, btw, h1])
  unfold cellsOf
  go_enter Tryz.func28, Tryz.ntmps28
  go_wp2_with (first | (go_at_call 52; refine (between_any _ _ _ _).mono ?_; rintro e w' ⟨rfl, rfl⟩))
  go_ret
  exact ⟨ret_bool H.out.symm, (Below.refl _ _).alloc (Nat.le_refl _) _⟩
 ·have hd : decide (1 ≤ c 5) = false := by simpa using h1
  have H := Lib.hid (show rightB c 5 = false by simp [rightB, btw, h1])
  unfold cellsOf
  go_enter Tryz.func28, Tryz.ntmps28
  go_wp2_with (first | (go_at_call 52; refine (between_any _ _ _ _).mono ?_; rintro e w' ⟨rfl, rfl⟩))
  go_ret
  exact ⟨ret_bool H.out.symm, (Below.refl _ _).alloc (Nat.le_refl _) _⟩
set_option maxRecDepth 100000 in
theorem right9 (c : Nat → Int) (w : World) :
  CallB 28 #[.agg (cellsOf c), .int .i64 10] w (.bool (rightB c 9)) := by
 unfold cellsOf
 go_enter Tryz.func28, Tryz.ntmps28
 go_wp2_with (first | (go_at_call 52; refine (between_any _ _ _ _).mono ?_; rintro e w' ⟨rfl, rfl⟩))
 go_ret
 exact ⟨rfl, (Below.refl _ _).alloc (Nat.le_refl _) _⟩
set_option maxRecDepth 100000 in
theorem right13 (c : Nat → Int) (w : World) :
  CallB 28 #[.agg (cellsOf c), .int .i64 14] w (.bool (rightB c 13)) := by
 unfold cellsOf
 go_enter Tryz.func28, Tryz.ntmps28
 go_wp2_with (first | (go_at_call 52; refine (between_any _ _ _ _).mono ?_; rintro e w' ⟨rfl, rfl⟩))
 go_ret
 exact ⟨rfl, (Below.refl _ _).alloc (Nat.le_refl _) _⟩
set_option maxRecDepth 100000 in
theorem right17 (c : Nat → Int) (w : World) :
  CallB 28 #[.agg (cellsOf c), .int .i64 18] w (.bool (rightB c 17)) := by
 unfold cellsOf
 go_enter Tryz.func28, Tryz.ntmps28
 go_wp2_with (first | (go_at_call 52; refine (between_any _ _ _ _).mono ?_; rintro e w' ⟨rfl, rfl⟩))
 go_ret
 exact ⟨rfl, (Below.refl _ _).alloc (Nat.le_refl _) _⟩
end
section
open Go.RowKit
set_option maxRecDepth 100000 in
theorem right2 (c : Nat → Int) (w : World) :
  CallB 28 #[.agg (cellsOf c), .int .i64 3] w (.bool (rightB c 2)) := by
 unfold cellsOf
 go_enter Tryz.func28, Tryz.ntmps28
 go_wp2_with (first | (go_at_call 52; refine (between_any _ _ _ _).mono ?_; rintro e w' ⟨rfl, rfl⟩))
 go_ret
 exact ⟨rfl, (Below.refl _ _).alloc (Nat.le_refl _) _⟩
set_option maxRecDepth 100000 in
theorem right6 (c : Nat → Int) (w : World) :
  CallB 28 #[.agg (cellsOf c), .int .i64 7] w (.bool (rightB c 6)) := by
 by_cases h1 : c 3 ≤ c 6
 ·have hd : decide (c 3 ≤ c 6) = true := by simpa using h1
  have H := Lib.hid (show rightB c 6 = decide (c 6 ≤ c 4) by simp [rightB, btw, h1])
  unfold cellsOf
  go_enter Tryz.func28, Tryz.ntmps28
  go_wp2_with (first | (go_at_call 52; refine (between_any _ _ _ _).mono ?_; rintro e w' ⟨rfl, rfl⟩))
  go_ret
  exact ⟨ret_bool H.out.symm, (Below.refl _ _).alloc (Nat.le_refl _) _⟩
 ·have hd : decide (c 3 ≤ c 6) = false := by simpa using h1
  have H := Lib.hid (show rightB c 6 = false by simp [rightB, btw, h1])
  unfold cellsOf
  go_enter Tryz.func28, Tryz.ntmps28
  go_wp2_with (first | (go_at_call 52; refine (between_any _ _ _ _).mono ?_; rintro e w' ⟨rfl, rfl⟩))
  go_ret
  exact ⟨ret_bool H.out.symm, (Below.refl _ _).alloc (Nat.le_refl _) _⟩
set_option maxRecDepth 100000 in
theorem right10 (c : Nat → Int) (w : World) :
  CallB 28 #[.agg (cellsOf c), .int .i64 11] w (.bool (rightB c 10)) := by
 unfold cellsOf
 go_enter Tryz.func28, Tryz.ntmps28
 go_wp2_with (first | (go_at_call 52; refine (between_any _ _ _ _).mono ?_; rintro e w' ⟨rfl, rfl⟩))
 go_ret
 exact ⟨rfl, (Below.refl _ _).alloc (Nat.le_refl _) _⟩
set_option maxRecDepth 100000 in
theorem right14 (c : Nat → Int) (w : World) :
  CallB 28 #[.agg (cellsOf c), .int .i64 15] w (.bool (rightB c 14)) := by
 unfold cellsOf
 go_enter Tryz.func28, Tryz.ntmps28
 go_wp2_with (first | (go_at_call 52; refine (between_any _ _ _ _).mono ?_; rintro e w' ⟨rfl, rfl⟩))
 go_ret
 exact ⟨rfl, (Below.refl _ _).alloc (Nat.le_refl _) _⟩
set_option maxRecDepth 100000 in
theorem right18 (c : Nat → Int) (w : World) :
  CallB 28 #[.agg (cellsOf c), .int .i64 19] w (.bool (rightB c 18)) := by
 unfold cellsOf
 go_enter Tryz.func28, Tryz.ntmps28
 go_wp2_with (first | (go_at_call 52; refine (between_any _ _ _ _).mono ?_; rintro e w' ⟨rfl, rfl⟩))
 go_ret
 exact ⟨rfl, (Below.refl _ _).alloc (Nat.le_refl _) _⟩
end
section
open Go.RowKit
set_option maxRecDepth 100000 in
theorem right3 (c : Nat → Int) (w : World) :
  CallB 28 #[.agg (cellsOf c), .int .i64 4] w (.bool (rightB c 3)) := by
 unfold cellsOf
 go_enter Tryz.func28, Tryz.ntmps28
 go_wp2_with (first | (go_at_call 52; refine (between_any _ _ _ _).mono ?_; rintro e w' ⟨rfl, rfl⟩))
 go_ret
 exact ⟨rfl, (Below.refl _ _).alloc (Nat.le_refl _) _⟩
set_option maxRecDepth 100000 in
theorem right7 (c : Nat → Int) (w : World) :
  CallB 28 #[.agg (cellsOf c), .int .i64 8] w (.bool (rightB c 7)) := by
 by_cases h1 : 1 ≤ c 7
 ·have hd : decide (1 ≤ c 7) = true := by simpa using h1
  have H := Lib.hid (show rightB c 7 = decide (c 7 ≤ 1152921504606846976) by simp [rightB, btw, most, h1])
  unfold cellsOf
  go_enter Tryz.func28, Tryz.ntmps28
  go_wp2_with (first | (go_at_call 52; refine (between_any _ _ _ _).mono ?_; rintro e w' ⟨rfl, rfl⟩))
  go_ret
  exact ⟨ret_bool H.out.symm, (Below.refl _ _).alloc (Nat.le_refl _) _⟩
 ·have hd : decide (1 ≤ c 7) = false := by simpa using h1
  have H := Lib.hid (show rightB c 7 = false by simp [rightB, btw, h1])
  unfold cellsOf
  go_enter Tryz.func28, Tryz.ntmps28
  go_wp2_with (first | (go_at_call 52; refine (between_any _ _ _ _).mono ?_; rintro e w' ⟨rfl, rfl⟩))
  go_ret
  exact ⟨ret_bool H.out.symm, (Below.refl _ _).alloc (Nat.le_refl _) _⟩
set_option maxRecDepth 100000 in
theorem right11 (c : Nat → Int) (w : World) :
  CallB 28 #[.agg (cellsOf c), .int .i64 12] w (.bool (rightB c 11)) := by
 by_cases h1 : c 10 < c 11
 ·have hd : decide (c 10 < c 11) = true := by simpa using h1
  have H := Lib.hid (show rightB c 11 = decide (c 11 ≤ 1048576) by simp [rightB, h1])
  unfold cellsOf
  go_enter Tryz.func28, Tryz.ntmps28
  go_wp2_with (first | (go_at_call 52; refine (between_any _ _ _ _).mono ?_; rintro e w' ⟨rfl, rfl⟩))
  go_ret
  exact ⟨ret_bool H.out.symm, (Below.refl _ _).alloc (Nat.le_refl _) _⟩
 ·have hd : decide (c 10 < c 11) = false := by simpa using h1
  have H := Lib.hid (show rightB c 11 = false by simp [rightB, h1])
  unfold cellsOf
  go_enter Tryz.func28, Tryz.ntmps28
  go_wp2_with (first | (go_at_call 52; refine (between_any _ _ _ _).mono ?_; rintro e w' ⟨rfl, rfl⟩))
  go_ret
  exact ⟨ret_bool H.out.symm, (Below.refl _ _).alloc (Nat.le_refl _) _⟩
set_option maxRecDepth 100000 in
theorem right15 (c : Nat → Int) (w : World) :
  CallB 28 #[.agg (cellsOf c), .int .i64 16] w (.bool (rightB c 15)) := by
 unfold cellsOf
 go_enter Tryz.func28, Tryz.ntmps28
 go_wp2_with (first | (go_at_call 52; refine (between_any _ _ _ _).mono ?_; rintro e w' ⟨rfl, rfl⟩))
 go_ret
 exact ⟨rfl, (Below.refl _ _).alloc (Nat.le_refl _) _⟩
set_option maxRecDepth 100000 in
theorem right19 (c : Nat → Int) (w : World) :
  CallB 28 #[.agg (cellsOf c), .int .i64 20] w (.bool (rightB c 19)) := by
 by_cases h1 : 1 ≤ c 19
 ·have hd : decide (1 ≤ c 19) = true := by simpa using h1
  have H := Lib.hid (show rightB c 19 = decide (c 19 ≤ 4294967296) by simp [rightB, btw, h1])
  unfold cellsOf
  go_enter Tryz.func28, Tryz.ntmps28
  go_wp2_with (first | (go_at_call 52; refine (between_any _ _ _ _).mono ?_; rintro e w' ⟨rfl, rfl⟩))
  go_ret
  exact ⟨ret_bool H.out.symm, (Below.refl _ _).alloc (Nat.le_refl _) _⟩
 ·have hd : decide (1 ≤ c 19) = false := by simpa using h1
  have H := Lib.hid (show rightB c 19 = false by simp [rightB, btw, h1])
  unfold cellsOf
  go_enter Tryz.func28, Tryz.ntmps28
  go_wp2_with (first | (go_at_call 52; refine (between_any _ _ _ _).mono ?_; rintro e w' ⟨rfl, rfl⟩))
  go_ret
  exact ⟨ret_bool H.out.symm, (Below.refl _ _).alloc (Nat.le_refl _) _⟩
end
section
set_option maxRecDepth 100000
open Go.RowKit
theorem right_any (c : Nat → Int) (k : Nat) (hk : k < 20) (w : World) :
  CallB 28 #[.agg (cellsOf c), .int .i64 ((k : Int) + 1)] w (.bool (rightB c k)) := by
 have : k = 0 ∨ k = 1 ∨ k = 2 ∨ k = 3 ∨ k = 4 ∨ k = 5 ∨ k = 6 ∨ k = 7 ∨ k = 8 ∨ k = 9 ∨ k = 10 ∨ k = 11 ∨ k = 12 ∨ k = 13 ∨ k = 14 ∨ k = 15 ∨ k = 16 ∨ k = 17 ∨ k = 18 ∨ k = 19 := by omega
 rcases this with rfl | rfl | rfl | rfl | rfl | rfl | rfl | rfl | rfl | rfl | rfl | rfl | rfl | rfl | rfl | rfl | rfl | rfl | rfl | rfl
 ·exact right0 c w
 ·exact right1 c w
 ·exact right2 c w
 ·exact right3 c w
 ·exact right4 c w
 ·exact right5 c w
 ·exact right6 c w
 ·exact right7 c w
 ·exact right8 c w
 ·exact right9 c w
 ·exact right10 c w
 ·exact right11 c w
 ·exact right12 c w
 ·exact right13 c w
 ·exact right14 c w
 ·exact right15 c w
 ·exact right16 c w
 ·exact right17 c w
 ·exact right18 c w
 ·exact right19 c w
end
section
set_option maxRecDepth 100000
open Go Go.RowKit
theorem owns_kept {w w' : World} {S : Nat → Prop} {base n size : Nat} {e : TypeId} {v : Value} {xs : List Value} (h : w.ownsRow base e size v n xs) (k : Kept S w w') (hn : ∀ g, v.ownBlock = some g → ¬ S g) : w'.ownsRow base e size v n xs := by
 obtain ⟨h1, h2⟩ := h
 refine ⟨h1, ?_⟩
 rcases h2 with h2 | ⟨g, cap, cur, rfl, h3, h4, h5⟩
 ·exact .inl h2
 ·exact .inr ⟨g, cap, cur, rfl, h3, Blk.kept (w := w) h4 k (hn g rfl), h5⟩
end
section
open Go Go.RowKit Go.Lib
set_option maxRecDepth 100000
def UAt (w : World) (S : Nat → Prop) (a : Option Addr) (L : List Int) : Prop :=
 0 < L.length → ∃ b off, a = some ⟨b, off, none⟩ ∧ ¬ S b ∧ b < w.heap.size ∧ ∀ j, j < L.length → w.cell? ⟨b, off + j, none⟩ = some (.int .u64 (L.getD j 0))
def Amts (L : List Int) : Prop := ∀ j, 0 ≤ L.getD j 0 ∧ L.getD j 0 ≤ 18446744073709551615
def wOf (L : List Int) (i : Int) : Int := if 0 ≤ i ∧ i < (L.length : Int) then L.getD i.toNat 0 else 0
section
variable {w w' : World} {S T : Nat → Prop} {a : Option Addr} {L : List Int}
theorem UAt.nil (w : World) (S : Nat → Prop) (a : Option Addr) : UAt w S a [] := fun h => by simp at h
theorem UAt.kept (h : UAt w S a L) (k : Kept T w w') (hT : ∀ i, i < w.heap.size → T i → S i) : UAt w' S a L := fun hl => by
 obtain ⟨b, off, e, hn, hb, hc⟩ := h hl
 exact ⟨b, off, e, hn, Nat.lt_of_lt_of_le hb k.size, fun j hj => k.cell (fun ht => hn (hT _ hb ht)) (hc j hj)⟩
theorem UAt.other (h : UAt w S a L) (hT : ∀ i, i < w.heap.size → T i → S i) : UAt w T a L := fun hl => by
 obtain ⟨b, off, e, hn, hb, hc⟩ := h hl
 exact ⟨b, off, e, fun ht => hn (hT _ hb ht), hb, hc⟩
theorem UAt.below (h : UAt w S a L) (hb : Below w.heap.size w w') : UAt w' S a L := fun hl => by
 obtain ⟨b, off, e, hn, hb2, hc⟩ := h hl
 exact ⟨b, off, e, hn, Nat.lt_of_lt_of_le hb2 hb.size, fun j hj => (hb.cell (p := ⟨b, off + j, none⟩) hb2).trans (hc j hj)⟩
theorem UAt.drewN (h : UAt w S a L) (n : Nat) : UAt (w.drewN n) S a L := h
theorem UAt.of_blk {g : Nat} {t : TypeId} (h : Blk w g t (L.map (Value.int .u64)).toArray) (hn : ¬ S g) : UAt w S (some ⟨g, 0, none⟩) L := fun hl =>
 ⟨g, 0, rfl, hn, h.lt, fun j hj => by
  rw [Nat.zero_add, h.cell, List.getElem?_toArray, List.getElem?_map, List.getD_eq_getElem?_getD, List.getElem?_eq_getElem hj]
  rfl⟩
theorem wOf_out {i : Int} (h : i < 0 ∨ (L.length : Int) ≤ i) : wOf L i = 0 := by rw [wOf, if_neg (by omega)]
theorem wOf_in {k : Nat} (h : k < L.length) : wOf L k = L.getD k 0 := by rw [wOf, if_pos (by omega)]; simp
theorem wOf_amt (h : Amts L) (i : Int) : 0 ≤ wOf L i ∧ wOf L i ≤ 18446744073709551615 := by
 unfold wOf
 split
 ·exact h _
 ·exact ⟨by decide, by decide⟩
theorem weight_any (cap : Nat) (i : Int) (w : World) (h : UAt w S a L) (hl : L.length ≤ 9223372036854775807) :
  CallW 251 #[.slice a L.length cap, .int .i64 i] w (.int .u64 (wOf L i)) := by
 by_cases h1 : i < 0
 ·have HE := Lib.hid (wOf_out (L := L) (.inl h1))
  go_enter Tryz.func251, Tryz.ntmps251
  go_wp2
  go_ret
  exact ⟨by rw [HE.out]; rfl, rfl⟩
 ·by_cases h2 : (L.length : Int) ≤ i
  ·have HE := Lib.hid (wOf_out (L := L) (.inr h2))
   go_enter Tryz.func251, Tryz.ntmps251
   go_wp2
   go_ret
   exact ⟨by rw [HE.out]; rfl, rfl⟩
  ·obtain ⟨k, rfl, hk⟩ : ∃ k : Nat, i = k ∧ k < L.length := ⟨i.toNat, by omega, by omega⟩
   have he := wOf_in hk
   obtain ⟨b, off, rfl, _, _, hc⟩ := h (by omega)
   have hcell := hc k hk
   generalize L.getD k 0 = x at hcell he
   have HE := Lib.hid he
   clear hc he
   go_enter Tryz.func251, Tryz.ntmps251
   go_wp2
   go_ret
   exact ⟨by rw [HE.out]; rfl, rfl⟩
end
end
section
open Go Go.RowKit
set_option maxRecDepth 100000
section
variable {w : World} {S : Nat → Prop} {L : List Int} {a : Option Addr} {n : Nat}
theorem amts_of_owns {base n : Nat} {v : Value} (h : w.ownsRow base 23 1 v n (L.map (Value.int .u64))) (hS : ∀ i, v.ownBlock = some i → ¬ S i) : ∃ a cp, v = .slice a n cp ∧ L.length = n ∧ n ≤ cp ∧ UAt w S a L := by
 have hl := h.1
 rw [List.length_map, Nat.mul_one] at hl
 rcases h.2 with ⟨rfl, h2⟩ | ⟨g, cp, cur, rfl, h1, h3, h4, h5, h6, h7⟩
 ·subst h2
  obtain rfl := List.eq_nil_of_length_eq_zero hl
  exact ⟨none, 0, rfl, rfl, by omega, UAt.nil _ _ _⟩
 ·refine ⟨_, cp, rfl, hl, h4, fun h0 => ⟨g, 0, rfl, hS g rfl, (Array.getElem?_eq_some_iff.1 h3).1, fun j hj => ?_⟩⟩
  have := h.cells (g := g) rfl j (.int .u64 (L.getD j 0)) (by rw [List.getElem?_map, List.getD_eq_getElem?_getD, List.getElem?_eq_getElem hj]; rfl)
  rwa [add_plain] at this
theorem IntsAt.take (h : IntsAt w S a L) (hn : n ≤ L.length) : IntsAt w S a (L.take n) := fun h0 => by
 have hl : (L.take n).length = n := by simp; omega
 rw [hl] at h0 ⊢
 obtain ⟨b, off, e, hs, hb, hc⟩ := h (by omega)
 refine ⟨b, off, e, hs, hb, fun j hj => ?_⟩
 rw [hc j (by omega)]
 simp [List.getD_eq_getElem?_getD, List.getElem?_take_of_lt hj]
end
end
section
open Go.RowKit
def ents (bp bc : Nat) : Array Value := #[.pointer (some ⟨bc, 0, none⟩), .pointer none, .func (.func 146) #[] #[.pointer (some ⟨bp, 0, none⟩)], .pointer (some ⟨bc, 1, none⟩), .pointer none, .func (.func 148) #[] #[.pointer (some ⟨bp, 0, none⟩)], .pointer none, .pointer (some ⟨bc, 2, none⟩), .func (.func 149) #[] #[.pointer (some ⟨bp, 0, none⟩)], .pointer none, .pointer (some ⟨bc, 3, none⟩), .func (.func 150) #[] #[.pointer (some ⟨bp, 0, none⟩)], .pointer none, .pointer (some ⟨bc, 4, none⟩), .func (.func 151) #[] #[.pointer (some ⟨bp, 0, none⟩)], .pointer none, .pointer (some ⟨bc, 5, none⟩), .func (.func 153) #[] #[.pointer (some ⟨bp, 0, none⟩)], .pointer none, .pointer (some ⟨bc, 6, none⟩), .func (.func 154) #[] #[.pointer (some ⟨bp, 0, none⟩)], .pointer none, .pointer (some ⟨bc, 7, none⟩), .func (.func 155) #[] #[.pointer (some ⟨bp, 0, none⟩)], .pointer none, .pointer (some ⟨bc, 8, none⟩), .func (.func 156) #[] #[.pointer (some ⟨bp, 0, none⟩)], .pointer none, .pointer (some ⟨bc, 9, none⟩), .func (.func 157) #[] #[.pointer (some ⟨bp, 0, none⟩)], .pointer (some ⟨bc, 10, none⟩), .pointer none, .func (.func 158) #[] #[.pointer (some ⟨bp, 0, none⟩)], .pointer (some ⟨bc, 11, none⟩), .pointer none, .func (.func 159) #[] #[.pointer (some ⟨bp, 0, none⟩)], .pointer (some ⟨bc, 12, none⟩), .pointer none, .func (.func 160) #[] #[.pointer (some ⟨bp, 0, none⟩)], .pointer (some ⟨bc, 13, none⟩), .pointer none, .func (.func 161) #[] #[.pointer (some ⟨bp, 0, none⟩)], .pointer (some ⟨bc, 14, none⟩), .pointer none, .func (.func 162) #[] #[.pointer (some ⟨bp, 0, none⟩)], .pointer (some ⟨bc, 15, none⟩), .pointer none, .func (.func 163) #[] #[.pointer (some ⟨bp, 0, none⟩)], .pointer (some ⟨bc, 16, none⟩), .pointer none, .func (.func 164) #[] #[.pointer (some ⟨bp, 0, none⟩)], .pointer (some ⟨bc, 17, none⟩), .pointer none, .func (.func 165) #[] #[.pointer (some ⟨bp, 0, none⟩)], .pointer none, .pointer (some ⟨bc, 18, none⟩), .func (.func 166) #[] #[.pointer (some ⟨bp, 0, none⟩)], .pointer none, .pointer (some ⟨bc, 19, none⟩), .func (.func 167) #[] #[.pointer (some ⟨bp, 0, none⟩)]]
theorem ents_one (bp bc : Nat) : (ents bp bc).all (·.oneCell') = true := by kernel_rfl
theorem info42 : (Tryz.prog.info? 178).map (·.size) = some 60 := by kernel_rfl
set_option maxRecDepth 100000 in
set_option maxHeartbeats 4000000 in
theorem entries_any (bc : Nat) (w : World) :
  Calls Tryz.prog 119 #[.pointer (some ⟨bc, 0, none⟩)] w fun e w' => e = .returned (.agg (ents w.heap.size bc)) ∧ Blk w' w.heap.size 180 #[.pointer (some ⟨bc, 0, none⟩)] ∧ Below w.heap.size w w' := by
 go_enter Tryz.func119, Tryz.ntmps119
 go_wp2
 refine wp_region_long 101 3 (by kernel_rfl) rfl (by kernel_rfl) rfl ?_
 intro ops W hW
 have hp : W.cell? ⟨w.heap.size, 0, none⟩ = some (.pointer (some ⟨bc, 0, none⟩)) := by
  rw [hW]; exact ((Blk.new w 180 #[.pointer (some ⟨bc, 0, none⟩)]).alloc _).cell 0
 have HB1 := Lib.hid (show Blk W w.heap.size 180 #[.pointer (some ⟨bc, 0, none⟩)] by rw [hW]; exact (Blk.new w 180 #[.pointer (some ⟨bc, 0, none⟩)]).alloc _)
 have HB2 := Lib.hid (show ∃ old : Array Value, old.size = 60 ∧ Blk W (w.heap.size + 1) 178 old by
  rw [hW]
  exact ⟨_, rfl, heap_alloc2_new w _ _⟩)
 have HB := Lib.hid (show Below w.heap.size w W by rw [hW]; exact (((Below.refl _ _).alloc (Nat.le_refl _) _).alloc (by simp) _).drew)
 clear hW
 iterate 101 still_step
 refine wpStill_nil ?_
 obtain ⟨old, hs, hb2⟩ := HB2.out
 refine wpList_store_row rfl _ _ _ rfl (w.heap.size + 1) (ents w.heap.size bc) rfl rfl 178 old hb2 info42 (by rw [hs]; rfl) (ents_one _ _) ?_
 have HS := Lib.hid hs
 have H2 := Lib.hid hb2
 clear hs hb2
 go_wp2
 refine bodyPost_ret (v := .agg (ents w.heap.size bc)) (results_cell_row (fn := Tryz.f119) rfl _ _ (w.heap.size + 1) 178 (ents w.heap.size bc) (0, 0) _ rfl (setRow_heap W _ old _ 178 (0, 0) H2.out) Tryz.underlying178 rfl info42) rfl ⟨rfl, ?_, below_setRow HB.out (by omega) _⟩
 exact (setRow_other W _ _ _ (by omega)).trans HB1.out
end
end Go.Proofs.YtobgbcdgffgdhaaGreat
