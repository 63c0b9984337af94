/- The chapter's example. -/
import Derived.Test.YtcjohlbglbcglaaQueue
namespace Go.Proofs.Ytcjohlbglbcglaa
open Go Go.RowKit
set_option linter.unusedVariables false
set_option linter.unusedSimpArgs false
set_option maxRecDepth 100000

theorem map_eg : ([0, 1, 2] : List Int).map (wOf [25, 4, 5]) = [25, 4, 5] ∧ ([1, 2] : List Int).map (wOf [25, 4, 5]) = [4, 5] := by decide
set_option maxHeartbeats 1600000 in
theorem alive_any (w : World) : Calls Try.prog 9 #[] w fun e w' => e = .returned (.bool true) ∧ Below w.heap.size w w' := by
  have HN := Lib.hid (ri_new_some 4 w (by omega) (by omega))
  have hQ := qown_new (w0 := w) (w := w) (Below.refl _ _) (s := 4) (by omega) (by omega)
  have hA : Amts [25, 4, 5] := fun j => by
    rcases j with _ | _ | _ | j <;> simp
  have hl : Amt 10 := ⟨by decide, by decide⟩
  have hx : Amt 2 := ⟨by decide, by decide⟩
  have HAl := Lib.hid (And.intro hA (And.intro hl hx))
  have HQ := Lib.hid hQ
  clear hQ hA hl hx
  go_enter Try.func9, Try.ntmps9
  go_wp2_with fail
  refine HN.out.mono ?_
  rintro e w1 ⟨rfl, hw1⟩
  have hw1 : w.alloc (.cells #[.int .i64 (4 : Nat), .slice none 0 0, .int .i64 0, .int .i64 0] 51) = w1 := hw1
  rw [hw1] at HQ
  have HP := Lib.hid ((HQ.out.alloc (.cells #[.int .i64 0, .int .i64 1, .int .i64 2] 3)).push (I := [0, 1, 2]) (c := 3) (IntsAt.of_blk (L := [0, 1, 2]) (Blk.new w1 _ _) (fun h => Nat.lt_irrefl _ (HQ.out.1.lt _ h))) (by decide) (by decide) (by decide))
  generalize w.heap.size = b at *
  clear HN hw1 HQ
  go_wp2_with fail
  refine HP.out.mono ?_
  rintro e w2 ⟨rfl, go, hq2, -⟩
  have hq3 := hq2.alloc (.cells #[.int .u64 25, .int .u64 4, .int .u64 5] 23)
  have hu3 : UAt (w2.alloc (.cells #[.int .u64 25, .int .u64 4, .int .u64 5] 23)) (Foot b go) (some ⟨w2.heap.size, 0, none⟩) [25, 4, 5] := UAt.of_blk (L := [25, 4, 5]) (Blk.new w2 _ _) (fun h => Nat.lt_irrefl _ (hq2.1.lt _ h))
  have HQ3 := Lib.hid hq3
  have HU3 := Lib.hid hu3
  have HW := Lib.hid (hq3.wait (cap := 3) hu3 (by decide) HAl.out.1 HAl.out.2.1 HAl.out.2.2)
  clear HP hq2 hq3 hu3
  go_wp2_with fail
  refine HW.out.mono ?_
  rintro e w4 ⟨rfl, hq4, hb4⟩
  rw [List.nil_append, map_eg.1, List.cons_append, List.cons_append, List.cons_append, List.nil_append, bat_eg.2.2]
  have hu4 := HU3.out.below hb4
  have HU4 := Lib.hid hu4
  have HS := Lib.hid (hq4.step (cap := 3) hu4 (by decide) HAl.out.1 HAl.out.2.1)
  rw [List.nil_append, map_eg.1, bat_eg.1] at HS
  clear HW hq4 hb4 hu4 HU3 HQ3
  go_wp2_with fail
  refine HS.out.mono ?_
  rintro e w5 ⟨a5, c5, rfl, -, -, hi5, hq5, hk5⟩
  have hu5 := HU4.out.kept hk5 (fun _ _ h => h)
  have HI5 := Lib.hid hi5
  have HT := Lib.hid (hq5.step (cap := 3) hu5 (by decide) HAl.out.1 HAl.out.2.1)
  rw [show ([0, 1, 2] : List Int).drop 1 = [1, 2] from rfl, map_eg.2, bat_eg.2.1] at HT
  clear HS hi5 hq5 hk5 hu5 HU4
  go_wp2_with fail
  refine HT.out.mono ?_
  rintro e w6 ⟨a6, c6, rfl, -, -, hi6, hq6, hk6⟩
  have HI6 := Lib.hid hi6
  have HJ6 := Lib.hid (HI5.out.kept hk6 (fun _ _ h => h))
  rw [show ([1, 2] : List Int).take 2 = [1, 2] from rfl] at HI6
  rw [show ([0, 1, 2] : List Int).take 1 = [0] from rfl] at HJ6
  rw [show ([1, 2] : List Int).drop 2 = [] from rfl] at hq6
  have HQ6 := Lib.hid hq6
  have HE := Lib.hid (equal_same (n := 1) (c := c5) (d := 1) (HJ6.out.below ((Below.refl _ w6).alloc (Nat.le_refl _) (.cells #[.int .i64 0] 3))) (IntsAt.of_blk (S := fun _ => False) (L := [0]) (Blk.new w6 3 #[.int .i64 0]) (fun h => h)) rfl (by decide))
  clear HT hi6 hq6 hk6 HI5
  go_wp2_with fail
  refine HE.out.mono ?_
  rintro e w7 ⟨rfl, m7, rfl⟩
  have HQ7 := Lib.hid ((HQ6.out.alloc (.cells #[.int .i64 0] 3)).drewN m7)
  have HI7 := Lib.hid ((HI6.out.below ((Below.refl _ w6).alloc (Nat.le_refl _) (.cells #[.int .i64 0] 3))).drewN m7)
  generalize (w6.alloc (.cells #[.int .i64 0] 3)).drewN m7 = w7 at *
  have HE2 := Lib.hid (equal_same (n := 2) (c := c6) (d := 2) (HI7.out.below ((Below.refl _ w7).alloc (Nat.le_refl _) (.cells #[.int .i64 1, .int .i64 2] 3))) (IntsAt.of_blk (S := fun _ => False) (L := [1, 2]) (Blk.new w7 3 #[.int .i64 1, .int .i64 2]) (fun h => h)) rfl (by decide))
  clear HE HJ6 HI6 HQ6
  go_wp2_with fail
  refine HE2.out.mono ?_
  rintro e w8 ⟨rfl, m8, rfl⟩
  have HQ8 := Lib.hid ((HQ7.out.alloc (.cells #[.int .i64 1, .int .i64 2] 3)).drewN m8)
  generalize (w7.alloc (.cells #[.int .i64 1, .int .i64 2] 3)).drewN m8 = w8 at *
  clear HE2 HQ7 HI7
  go_wp2_with fail
  refine HQ8.out.len.mono ?_
  rintro e w9 ⟨rfl, rfl⟩
  go_wp2
  go_ret
  exact ⟨rfl, HQ8.out.2.2⟩
end Go.Proofs.Ytcjohlbglbcglaa
