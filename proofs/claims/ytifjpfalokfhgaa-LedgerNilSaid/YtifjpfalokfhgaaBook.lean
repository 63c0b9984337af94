/- total and book: an entry goes into the copy of the totals, the copy goes back. -/
import Derived.Test.YtifjpfalokfhgaaBase
import Derived.Test.YtifjpfalokfhgaaBuild
namespace Go.Proofs.Ytifjpfalokfhgaa
open Go.RowKit
set_option linter.unusedVariables false
set_option linter.unusedSimpArgs false

theorem getD_two (y x : Int) (i : Nat) (hy0 : 0 ≤ y) (hy1 : y ≤ 18446744073709551615) (hx0 : 0 ≤ x) (hx1 : x ≤ 18446744073709551615) : 0 ≤ [y, x].getD i 0 ∧ [y, x].getD i 0 ≤ 18446744073709551615 := by
  match i with
  | 0 => exact ⟨hy0, hy1⟩
  | 1 => exact ⟨hx0, hx1⟩
  | i + 2 => simp
theorem add2_any (g : Nat) (y x : Int) (w : World) (h : Blk w g 22 #[.int .u64 y, .int .u64 x]) (hy0 : 0 ≤ y) (hy1 : y ≤ 18446744073709551615) (hx0 : 0 ≤ x) (hx1 : x ≤ 18446744073709551615) :
    Calls Try.prog 17 #[.slice (some ⟨g, 0, none⟩) 2 2] w fun e w' => e = .returned (.tuple #[.int .u64 (addQ [y, x] 2), .bool (addOk [y, x] 2)]) ∧ w = w' :=
  add_row g 0 2 2 [y, x] w (by omega) (fun i hi => by
    rw [Nat.zero_add, Blk.cell h i]
    obtain rfl | rfl : i = 0 ∨ i = 1 := by omega
    all_goals rfl) (fun i => getD_two y x i hy0 hy1 hx0 hx1)
theorem refadd2_any (g : Nat) (y x : Int) (w : World) (h : Blk w g 22 #[.int .u64 y, .int .u64 x]) (hy0 : 0 ≤ y) (hy1 : y ≤ 18446744073709551615) (hx0 : 0 ≤ x) (hx1 : x ≤ 18446744073709551615) :
    Calls Try.prog 29 #[.slice (some ⟨g, 0, none⟩) 2 2] w fun e w' => e = .returned (.tuple #[.int .u64 (addQ [y, x] 2), .bool (addOk [y, x] 2)]) ∧ ∃ n, w' = w.drewN n :=
  refadd_row g 0 2 2 [y, x] w (by omega) (fun i hi => by
    rw [Nat.zero_add, Blk.cell h i]
    obtain rfl | rfl : i = 0 ∨ i = 1 := by omega
    all_goals rfl) (fun i => getD_two y x i hy0 hy1 hx0 hx1)
theorem two_yes {y x : Int} (h : y + x ≤ 18446744073709551615) : addOk [y, x] 2 = true ∧ addQ [y, x] 2 = y + x := by
  have e : sumTo [y, x] 2 = y + x := by simp [sumTo]
  have := add_yes (z := [y, x]) (n := 2) (by rw [e]; exact h)
  rwa [e] at this
theorem two_not {y x : Int} (h : ¬ y + x ≤ 18446744073709551615) : addOk [y, x] 2 = false ∧ addQ [y, x] 2 = 0 := by
  have e : sumTo [y, x] 2 = y + x := by simp [sumTo]
  exact add_not (z := [y, x]) (n := 2) (by rw [e]; exact h)
theorem add2_yes (g : Nat) (y x : Int) (w : World) (h : Blk w g 22 #[.int .u64 y, .int .u64 x]) (hy0 : 0 ≤ y) (hx0 : 0 ≤ x) (hs : y + x ≤ 18446744073709551615) :
    Calls Try.prog 17 #[.slice (some ⟨g, 0, none⟩) 2 2] w fun e w' => e = .returned (.tuple #[.int .u64 (y + x), .bool true]) ∧ w = w' := by
  have := add2_any g y x w h hy0 (by omega) hx0 (by omega)
  rwa [(two_yes hs).1, (two_yes hs).2] at this
theorem add2_not (g : Nat) (y x : Int) (w : World) (h : Blk w g 22 #[.int .u64 y, .int .u64 x]) (hy0 : 0 ≤ y) (hy1 : y ≤ 18446744073709551615) (hx0 : 0 ≤ x) (hx1 : x ≤ 18446744073709551615) (hs : ¬ y + x ≤ 18446744073709551615) :
    Calls Try.prog 17 #[.slice (some ⟨g, 0, none⟩) 2 2] w fun e w' => e = .returned (.tuple #[.int .u64 0, .bool false]) ∧ w = w' := by
  have := add2_any g y x w h hy0 hy1 hx0 hx1
  rwa [(two_not hs).1, (two_not hs).2] at this
theorem refadd2_yes (g : Nat) (y x : Int) (w : World) (h : Blk w g 22 #[.int .u64 y, .int .u64 x]) (hy0 : 0 ≤ y) (hx0 : 0 ≤ x) (hs : y + x ≤ 18446744073709551615) :
    Calls Try.prog 29 #[.slice (some ⟨g, 0, none⟩) 2 2] w fun e w' => e = .returned (.tuple #[.int .u64 (y + x), .bool true]) ∧ ∃ n, w' = w.drewN n := by
  have := refadd2_any g y x w h hy0 (by omega) hx0 (by omega)
  rwa [(two_yes hs).1, (two_yes hs).2] at this
theorem refadd2_not (g : Nat) (y x : Int) (w : World) (h : Blk w g 22 #[.int .u64 y, .int .u64 x]) (hy0 : 0 ≤ y) (hy1 : y ≤ 18446744073709551615) (hx0 : 0 ≤ x) (hx1 : x ≤ 18446744073709551615) (hs : ¬ y + x ≤ 18446744073709551615) :
    Calls Try.prog 29 #[.slice (some ⟨g, 0, none⟩) 2 2] w fun e w' => e = .returned (.tuple #[.int .u64 0, .bool false]) ∧ ∃ n, w' = w.drewN n := by
  have := refadd2_any g y x w h hy0 hy1 hx0 hx1
  rwa [(two_not hs).1, (two_not hs).2] at this

theorem infoE : (Try.prog.info? 56).map (·.size) = some 2 := by kernel_rfl
theorem u64_info : (Try.prog.info? 22).map (fun i => (i.zero, i.size)) = some (some (.int .u64 0), 1) := by kernel_rfl
theorem total_any (s b : Nat) (hs : s < 3) (w : World) : Calls Try.prog 30 #[.pointer (some ⟨b, 0, none⟩), .int .i64 s] w fun e w' => e = .returned (.pointer (some ⟨b, s, none⟩)) ∧ w = w' := by
  obtain rfl | rfl | rfl : s = 0 ∨ s = 1 ∨ s = 2 := by omega
  · exact total_0 b w
  · exact total_1 b w
  · exact total_2 b w

theorem led_range {w : World} {b : Nat} {D P B C : Int} (h : LedAt w b D P B C) : w.rangeAt b 0 [.int .u64 D, .int .u64 P, .int .u64 B] := by
  intro j v hv
  have hj : j < 3 := (List.getElem?_eq_some_iff.1 hv).1
  rw [Nat.zero_add, Blk.cell h j]
  obtain rfl | rfl | rfl : j = 0 ∨ j = 1 ∨ j = 2 := by omega
  all_goals exact hv
theorem led_there {w : World} {b : Nat} {D P B C : Int} (h : LedAt w b D P B C) : w.there b 0 3 := by
  intro j hj
  refine ⟨?_, Blk.frozen h _⟩
  rw [Nat.zero_add, Blk.cell h j]
  obtain rfl | rfl | rfl : j = 0 ∨ j = 1 ∨ j = 2 := by omega
  all_goals rfl
theorem led_setCells {w : World} {b : Nat} {D P B C D' P' B' : Int} (h : LedAt w b D P B C) : LedAt (w.setCells b 0 [.int .u64 D', .int .u64 P', .int .u64 B']) b D' P' B' C :=
  Blk.set_ (Blk.set_ (Blk.set_ h 0 (.int .u64 D')) 1 (.int .u64 P')) 2 (.int .u64 B')
theorem only_setCells {a w : World} {b : Nat} (h : a.grownBy w (some b)) (u0 u1 u2 : Value) : a.grownBy (w.setCells b 0 [u0, u1, u2]) (some b) :=
  only_setCell (only_setCell (only_setCell h (.inl rfl) u0) (.inl rfl) u1) (.inl rfl) u2

set_option maxHeartbeats 800000 in
theorem book_yes (s b g : Nat) (D P B C D' P' B' x y : Int) (w : World) (hb : LedAt w b D P B C) (hg : Blk w g 56 #[.int .i64 s, .int .u64 x]) (hs : s < 3)
    (hy : (#[.int .u64 D, .int .u64 P, .int .u64 B] : Array Value)[s]? = some (.int .u64 y)) (hup : (#[.int .u64 D, .int .u64 P, .int .u64 B] : Array Value).setIfInBounds s (.int .u64 (y + x)) = #[.int .u64 D', .int .u64 P', .int .u64 B'])
    (y0 : 0 ≤ y) (x0 : 0 ≤ x) (hsum : y + x ≤ 18446744073709551615) :
    Calls Try.prog 27 #[.pointer (some ⟨b, 0, none⟩), .slice (some ⟨g, 0, none⟩) 1 1] w fun e w' => e = .returned (.bool true) ∧ LedAt w' b D' P' B' C ∧ w.grownBy w' (some b) := by
  have HR := Lib.hid (led_range hb)
  have HB := Lib.hid hb
  have HG := Lib.hid hg
  have HY := Lib.hid hy
  have HU := Lib.hid hup
  have HT := Lib.hid (fun b w => total_any s b hs w)
  have HL := Lib.hid (Blk.lt hb)
  have HLg := Lib.hid (Blk.lt hg)
  have HN : Hid (∀ (w : World), Blk (w.alloc (.cells #[.int .u64 D, .int .u64 P, .int .u64 B] 47)) w.heap.size 47 #[.int .u64 D, .int .u64 P, .int .u64 B]) := Lib.hid (fun w => Blk.new w _ _)
  clear hb hg hy hup
  go_enter Try.func27, Try.ntmps27
  go_wp2_with (first | (refine wpList_load_mid rfl 47 _ rfl b 0 rfl _ _ HR.out Try.underlying47 rfl infoA ?_) | (refine wpList_store_row rfl _ _ _ rfl w.heap.size #[.int .u64 D, .int .u64 P, .int .u64 B] rfl rfl 47 _ (heap_alloc_new w _) infoA rfl rfl ?_; rw [World.setRow_alloc_new]))
  go_loopw [16] (fun s16 wr => ∃ (k : Nat) (cs : Array Value), s16 = .int .i64 k ∧ Hid (k = 0 ∧ cs = #[.int .u64 D, .int .u64 P, .int .u64 B] ∨ k = 1 ∧ cs = #[.int .u64 D', .int .u64 P', .int .u64 B']) ∧ Hid (Blk wr w.heap.size 47 cs) ∧ Below w.heap.size w wr) (fun s16 _ => 1 - (intOf s16).toNat)
  case atStart => exact ⟨0, _, rfl, Lib.hid (.inl ⟨rfl, rfl⟩), Lib.hid (Blk.new w _ _), (Below.refl _ _).alloc (Nat.le_refl _) _⟩
  case round =>
    obtain ⟨k, cs, rfl, HK, HC, BR⟩ := hrel
    have hk : k = 0 ∨ k = 1 := HK.out.elim (fun h => .inl h.1) (fun h => .inr h.1)
    rcases hk with rfl | rfl
    · have hcs : cs = #[.int .u64 D, .int .u64 P, .int .u64 B] := HK.out.elim (fun h => h.2) (fun h => by cases h.1)
      subst hcs
      clear HK
      have g0 : wr.cell? ⟨g, 0, none⟩ = some (.int .i64 s) := (BR.cell (p := ⟨g, 0, none⟩) HLg.out).trans (HG.out.cell 0)
      have g1 : wr.cell? ⟨g, 1, none⟩ = some (.int .u64 x) := (BR.cell (p := ⟨g, 1, none⟩) HLg.out).trans (HG.out.cell 1)
      go_wp2_with (first | (refine wpList_store_row rfl _ _ _ rfl wr.heap.size #[.int .i64 s, .int .u64 x] rfl rfl 56 _ (heap_alloc_new wr _) infoE rfl rfl ?_; rw [World.setRow_alloc_new]) | fail)
      refine (HT.out _ _).mono ?_
      rintro e w1 ⟨rfl, hw1⟩
      have B1 : Below w.heap.size w w1 := hw1 ▸ BR.alloc BR.size _
      have C1 : Hid (Blk w1 w.heap.size 47 #[.int .u64 D, .int .u64 P, .int .u64 B]) := Lib.hid (hw1 ▸ Blk.alloc HC.out _)
      have x1 : w1.cell? ⟨wr.heap.size, 1, none⟩ = some (.int .u64 x) := by rw [← hw1]; exact Blk.cell (Blk.new _ _ _) 1
      have y1 : w1.cell? ⟨w.heap.size, s, none⟩ = some (.int .u64 y) := (C1.out.cell s).trans HY.out
      clear hw1 g0 g1 HC BR
      go_wp2
      refine wp_region_first (fun _ => True) 11 11 [] (by kernel_rfl) (by kernel_rfl) trivial ?_
      refine wpQuiet_nil ?_
      refine headF_takes (fun w' => w'.cell? ⟨wr.heap.size, 1, none⟩ = some (.int .u64 x) ∧ w'.cell? ⟨w.heap.size, s, none⟩ = some (.int .u64 y)) (m := 11) (f := 6) [0, 1, 2, 3, 4] (fun _ _ => trivial) (by kernel_rfl) ⟨x1, y1⟩ ?_
      simp only [List.filterMap_cons, List.filterMap_nil, List.getElem?_toArray, List.getElem?_cons_zero, List.getElem?_cons_succ]
      show wpQuiet _ _ _ _ [_, _, _, _, _] _
      iterate 2 (go_big_quiet_step ((intros; rfl)))
      refine q_cell 22 _ _ (.int .u64 y) rfl rfl rfl (fun w h => by simp [go_sem, h]) (fun w h => h.2) ?_
      simp only [Act.put, List.setIfInBounds_toArray, List.set_cons_zero, List.set_cons_succ]
      iterate 1 (go_big_quiet_step ((intros; rfl)))
      refine q_cell 22 _ _ (.int .u64 x) rfl rfl rfl (fun w h => by simp [go_sem, h]) (fun w h => h.1) ?_
      simp only [Act.put, List.setIfInBounds_toArray, List.set_cons_zero, List.set_cons_succ]
      refine wpQuiet_nil ?_
      refine headF_one (i := 5) (by kernel_rfl) (by omega) ?_
      refine wpOp_at rfl rfl (wp_buildSlice_two 51 22 (.tmp 26) (.tmp 28) _ _ (.int .u64 y) (.int .u64 x) rfl rfl rfl Try.underlying51 u64_info rfl rfl rfl ⟨⟨cell_alloc_some _ x1, cell_alloc_some _ y1⟩, ?_⟩)
      refine headF_one (i := 6) (by kernel_rfl) (by omega) ?_
      simp only [Act.put, List.getElem_toArray, List.getElem_cons_zero, List.getElem_cons_succ, List.setIfInBounds_toArray, List.set_cons_zero, List.set_cons_succ]
      refine wpOp_at rfl rfl (wp_call_at rfl #[.slice (some ⟨w1.drew.heap.size, 0, none⟩) 2 2] (by kernel_rfl) Try.call17 ((add2_yes w1.drew.heap.size y x _ (Blk.new w1.drew _ _) y0 x0 hsum).mono ?_))
      rintro e w2 ⟨rfl, hw2⟩
      have B2 : Below w.heap.size w w2 := hw2 ▸ B1.drew.alloc B1.size _
      have C2 : Hid (Blk w2 w.heap.size 47 #[.int .u64 D, .int .u64 P, .int .u64 B]) := Lib.hid (hw2 ▸ Blk.alloc (Blk.drew C1.out) _)
      have y2 : w2.cell? ⟨w.heap.size, s, none⟩ = some (.int .u64 y) := (C2.out.cell s).trans HY.out
      have x2 : w2.cell? ⟨wr.heap.size, 1, none⟩ = some (.int .u64 x) := by rw [← hw2]; exact cell_alloc_some _ x1
      have z2 : w2.frozen? ⟨w.heap.size, s, none⟩ = false := C2.out.frozen s
      have C3 : Hid (Blk (w2.setCell ⟨w.heap.size, s, none⟩ (.int .u64 (y + x))) w.heap.size 47 #[.int .u64 D', .int .u64 P', .int .u64 B']) := Lib.hid (by have := C2.out.set_ s (.int .u64 (y + x)); rwa [HU.out] at this)
      have B3 : Hid (Below w.heap.size w (w2.setCell ⟨w.heap.size, s, none⟩ (.int .u64 (y + x)))) := Lib.hid (B2.setCell (Nat.le_refl _) _)
      refine ⟨_, rfl, ⟨x2, y2⟩, ?_⟩
      clear hw2 C1 B1 x1 y1
      simp only [Act.put, List.getElem_toArray, List.getElem_cons_zero, List.getElem_cons_succ, List.setIfInBounds_toArray, List.set_cons_zero, List.set_cons_succ]
      refine headF_takes (fun w' => w'.cell? ⟨wr.heap.size, 1, none⟩ = some (.int .u64 x) ∧ w'.cell? ⟨w.heap.size, s, none⟩ = some (.int .u64 y)) (m := 4) (f := 0) [7, 8, 9, 10] (fun _ h => h) (by kernel_rfl) ⟨x2, y2⟩ ?_
      simp only [List.filterMap_cons, List.filterMap_nil, List.getElem?_toArray, List.getElem?_cons_zero, List.getElem?_cons_succ]
      show wpQuiet _ _ _ _ [_, _, _, _] _
      iterate 4 (go_big_quiet_step ((intros; rfl)))
      refine wpQuiet_nil ?_
      show Region.seqB _ _ _ _ _ = true ∧ _
      refine ⟨by kernel_rfl, ?_⟩
      simp only [Act.put, List.getElem_toArray, List.getElem_cons_zero, List.getElem_cons_succ, List.setIfInBounds_toArray, List.set_cons_zero, List.set_cons_succ, List.drop_succ_cons, List.drop_zero]
      go_wp2
      refine NoPanic.normal ?_
      go_wp2
      go_roundw
      case rel => exact ⟨1, _, rfl, Lib.hid (.inr ⟨rfl, rfl⟩), C3, B3.out⟩
      case measure => simp [intOf]
    · have hcs : cs = #[.int .u64 D', .int .u64 P', .int .u64 B'] := HK.out.elim (fun h => by cases h.1) (fun h => h.2)
      subst hcs
      clear HK
      have hb : LedAt wr b D P B C := Blk.below HB.out BR HL.out
      have HE : Hid (LedAt (((wr.setCell ⟨b, 0, none⟩ (.int .u64 D')).setCell ⟨b, 1, none⟩ (.int .u64 P')).setCell ⟨b, 2, none⟩ (.int .u64 B')) b D' P' B' C ∧ w.grownBy (((wr.setCell ⟨b, 0, none⟩ (.int .u64 D')).setCell ⟨b, 1, none⟩ (.int .u64 P')).setCell ⟨b, 2, none⟩ (.int .u64 B')) (some b)) := Lib.hid ⟨led_setCells hb, only_setCells (only_of_below BR _) _ _ _⟩
      obtain ⟨c0, c1, c2, c3⟩ := hb.cells
      have z0 := Blk.frozen hb 0
      have z1 := Blk.frozen hb 1
      have z2 := Blk.frozen hb 2
      clear hb
      go_wp2_with (refine wpList_load_row rfl 47 _ rfl w.heap.size rfl _ _ (0, 0) _ HC.out Try.underlying47 rfl infoA ?_)
      go_ret
      exact ⟨rfl, HE.out⟩
set_option maxHeartbeats 800000 in
theorem book_no (s b g : Nat) (D P B C x y : Int) (w : World) (hb : LedAt w b D P B C) (hg : Blk w g 56 #[.int .i64 s, .int .u64 x]) (hs : s < 3)
    (hy : (#[.int .u64 D, .int .u64 P, .int .u64 B] : Array Value)[s]? = some (.int .u64 y))
    (y0 : 0 ≤ y) (ym : y ≤ 18446744073709551615) (x0 : 0 ≤ x) (x1' : x ≤ 18446744073709551615) (hsum : ¬ y + x ≤ 18446744073709551615) :
    Calls Try.prog 27 #[.pointer (some ⟨b, 0, none⟩), .slice (some ⟨g, 0, none⟩) 1 1] w fun e w' => e = .returned (.bool false) ∧ Below w.heap.size w w' := by
  have HR := Lib.hid (led_range hb)
  have HB := Lib.hid hb
  have HG := Lib.hid hg
  have HY := Lib.hid hy
  have HT := Lib.hid (fun b w => total_any s b hs w)
  have HL := Lib.hid (Blk.lt hb)
  have HLg := Lib.hid (Blk.lt hg)
  have HN : Hid (∀ (w : World), Blk (w.alloc (.cells #[.int .u64 D, .int .u64 P, .int .u64 B] 47)) w.heap.size 47 #[.int .u64 D, .int .u64 P, .int .u64 B]) := Lib.hid (fun w => Blk.new w _ _)
  clear hb hg hy
  go_enter Try.func27, Try.ntmps27
  go_wp2_with (first | (refine wpList_load_mid rfl 47 _ rfl b 0 rfl _ _ HR.out Try.underlying47 rfl infoA ?_) | (refine wpList_store_row rfl _ _ _ rfl w.heap.size #[.int .u64 D, .int .u64 P, .int .u64 B] rfl rfl 47 _ (heap_alloc_new w _) infoA rfl rfl ?_; rw [World.setRow_alloc_new]))
  go_loopw [16] (fun s16 wr => ∃ (k : Nat) (cs : Array Value), s16 = .int .i64 k ∧ Hid (k = 0 ∧ cs = #[.int .u64 D, .int .u64 P, .int .u64 B]) ∧ Hid (Blk wr w.heap.size 47 cs) ∧ Below w.heap.size w wr) (fun s16 _ => 1 - (intOf s16).toNat)
  case atStart => exact ⟨0, _, rfl, Lib.hid ⟨rfl, rfl⟩, Lib.hid (Blk.new w _ _), (Below.refl _ _).alloc (Nat.le_refl _) _⟩
  case round =>
    obtain ⟨k, cs, rfl, HK, HC, BR⟩ := hrel
    obtain ⟨rfl, rfl⟩ := HK.out
    · clear HK
      have g0 : wr.cell? ⟨g, 0, none⟩ = some (.int .i64 s) := (BR.cell (p := ⟨g, 0, none⟩) HLg.out).trans (HG.out.cell 0)
      have g1 : wr.cell? ⟨g, 1, none⟩ = some (.int .u64 x) := (BR.cell (p := ⟨g, 1, none⟩) HLg.out).trans (HG.out.cell 1)
      go_wp2_with (first | (refine wpList_store_row rfl _ _ _ rfl wr.heap.size #[.int .i64 s, .int .u64 x] rfl rfl 56 _ (heap_alloc_new wr _) infoE rfl rfl ?_; rw [World.setRow_alloc_new]) | fail)
      refine (HT.out _ _).mono ?_
      rintro e w1 ⟨rfl, hw1⟩
      have B1 : Below w.heap.size w w1 := hw1 ▸ BR.alloc BR.size _
      have C1 : Hid (Blk w1 w.heap.size 47 #[.int .u64 D, .int .u64 P, .int .u64 B]) := Lib.hid (hw1 ▸ Blk.alloc HC.out _)
      have x1 : w1.cell? ⟨wr.heap.size, 1, none⟩ = some (.int .u64 x) := by rw [← hw1]; exact Blk.cell (Blk.new _ _ _) 1
      have y1 : w1.cell? ⟨w.heap.size, s, none⟩ = some (.int .u64 y) := (C1.out.cell s).trans HY.out
      clear hw1 g0 g1 HC BR
      go_wp2
      refine wp_region_first (fun _ => True) 11 11 [] (by kernel_rfl) (by kernel_rfl) trivial ?_
      refine wpQuiet_nil ?_
      refine headF_takes (fun w' => w'.cell? ⟨wr.heap.size, 1, none⟩ = some (.int .u64 x) ∧ w'.cell? ⟨w.heap.size, s, none⟩ = some (.int .u64 y)) (m := 11) (f := 6) [0, 1, 2, 3, 4] (fun _ _ => trivial) (by kernel_rfl) ⟨x1, y1⟩ ?_
      simp only [List.filterMap_cons, List.filterMap_nil, List.getElem?_toArray, List.getElem?_cons_zero, List.getElem?_cons_succ]
      show wpQuiet _ _ _ _ [_, _, _, _, _] _
      iterate 2 (go_big_quiet_step ((intros; rfl)))
      refine q_cell 22 _ _ (.int .u64 y) rfl rfl rfl (fun w h => by simp [go_sem, h]) (fun w h => h.2) ?_
      simp only [Act.put, List.setIfInBounds_toArray, List.set_cons_zero, List.set_cons_succ]
      iterate 1 (go_big_quiet_step ((intros; rfl)))
      refine q_cell 22 _ _ (.int .u64 x) rfl rfl rfl (fun w h => by simp [go_sem, h]) (fun w h => h.1) ?_
      simp only [Act.put, List.setIfInBounds_toArray, List.set_cons_zero, List.set_cons_succ]
      refine wpQuiet_nil ?_
      refine headF_one (i := 5) (by kernel_rfl) (by omega) ?_
      refine wpOp_at rfl rfl (wp_buildSlice_two 51 22 (.tmp 26) (.tmp 28) _ _ (.int .u64 y) (.int .u64 x) rfl rfl rfl Try.underlying51 u64_info rfl rfl rfl ⟨⟨cell_alloc_some _ x1, cell_alloc_some _ y1⟩, ?_⟩)
      refine headF_one (i := 6) (by kernel_rfl) (by omega) ?_
      simp only [Act.put, List.getElem_toArray, List.getElem_cons_zero, List.getElem_cons_succ, List.setIfInBounds_toArray, List.set_cons_zero, List.set_cons_succ]
      refine wpOp_at rfl rfl (wp_call_at rfl #[.slice (some ⟨w1.drew.heap.size, 0, none⟩) 2 2] (by kernel_rfl) Try.call17 ((add2_not w1.drew.heap.size y x _ (Blk.new w1.drew _ _) y0 ym x0 x1' (by omega)).mono ?_))
      rintro e w2 ⟨rfl, hw2⟩
      have B2 : Below w.heap.size w w2 := hw2 ▸ B1.drew.alloc B1.size _
      have C2 : Hid (Blk w2 w.heap.size 47 #[.int .u64 D, .int .u64 P, .int .u64 B]) := Lib.hid (hw2 ▸ Blk.alloc (Blk.drew C1.out) _)
      have y2 : w2.cell? ⟨w.heap.size, s, none⟩ = some (.int .u64 y) := (C2.out.cell s).trans HY.out
      have x2 : w2.cell? ⟨wr.heap.size, 1, none⟩ = some (.int .u64 x) := by rw [← hw2]; exact cell_alloc_some _ x1
      refine ⟨_, rfl, ⟨x2, y2⟩, ?_⟩
      clear hw2 C1 B1 x1 y1
      simp only [Act.put, List.getElem_toArray, List.getElem_cons_zero, List.getElem_cons_succ, List.setIfInBounds_toArray, List.set_cons_zero, List.set_cons_succ]
      refine headF_takes (fun w' => w'.cell? ⟨wr.heap.size, 1, none⟩ = some (.int .u64 x) ∧ w'.cell? ⟨w.heap.size, s, none⟩ = some (.int .u64 y)) (m := 4) (f := 0) [7, 8, 9, 10] (fun _ h => h) (by kernel_rfl) ⟨x2, y2⟩ ?_
      simp only [List.filterMap_cons, List.filterMap_nil, List.getElem?_toArray, List.getElem?_cons_zero, List.getElem?_cons_succ]
      show wpQuiet _ _ _ _ [_, _, _, _] _
      iterate 4 (go_big_quiet_step ((intros; rfl)))
      refine wpQuiet_nil ?_
      show Region.seqB _ _ _ _ _ = true ∧ _
      refine ⟨by kernel_rfl, ?_⟩
      simp only [Act.put, List.getElem_toArray, List.getElem_cons_zero, List.getElem_cons_succ, List.setIfInBounds_toArray, List.set_cons_zero, List.set_cons_succ, List.drop_succ_cons, List.drop_zero]
      go_wp2
      refine NoPanic.normal ?_
      go_wp2
      go_ret
      exact ⟨rfl, B2⟩
end Go.Proofs.Ytifjpfalokfhgaa
