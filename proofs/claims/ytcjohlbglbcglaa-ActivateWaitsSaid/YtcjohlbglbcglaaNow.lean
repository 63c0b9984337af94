/- The weight of an index, as activate asks it; whether an index belongs to the first boundary. -/
import Derived.Test.YtcjohlbglbcglaaBnd
namespace Go.Proofs.Ytcjohlbglbcglaa
open Go Go.RowKit
set_option linter.unusedVariables false
set_option linter.unusedSimpArgs false
set_option maxRecDepth 100000

theorem one_weight {x : Int} (h : Amt x) : addQ [x] 1 = x ∧ addOk [x] 1 = true := by
  have e : sumTo [x] 1 = x := by simp [sumTo]
  exact ⟨by rw [addQ, e, if_pos h.2], by rw [addOk, e, decide_eq_true h.2]⟩
section
variable {w w' : World} {h k : Nat} {lim s x : Int} {p : Nat × Int} {S : Nat → Prop} {a : Option Addr} {L : List Int} {cap : Nat}
theorem aweight_any (i : Int) (hu : UAt w S a L) (hL : L.length ≤ 9223372036854775807) (hA : Amts L) :
    Calls Try.prog 24 #[.slice a L.length cap, .int .i64 i] w fun e w' => e = .returned (.int .u64 (wOf L i)) ∧ Below w.heap.size w w' := by
  have hb : Below w.heap.size w (w.alloc (.cells #[.int .i64 i] 3)) := (Below.refl _ _).alloc (Nat.le_refl _) _
  have HW := Lib.hid (wsum_any (I := [i]) (ic := 1) (cap := cap) (S2 := fun _ => False) (hu.below hb) hL hA (IntsAt.of_blk (L := [i]) (Blk.new w 3 #[.int .i64 i]) (fun h => h)) (by simp))
  have HB := Lib.hid hb
  have HO := Lib.hid (one_weight (wOf_amt hA i))
  clear hb hu hL hA
  go_enter Try.func24, Try.ntmps24
  go_wp2_with fail
  refine HW.out.mono ?_
  rintro e w' ⟨rfl, b1⟩
  rw [List.map_cons, List.map_nil, List.length_singleton, HO.out.1, HO.out.2]
  have B1 := Lib.hid b1
  clear b1 HW
  go_wp2
  go_ret
  exact ⟨rfl, HB.out.trans (B1.out.mono HB.out.size)⟩
set_option maxHeartbeats 800000 in
theorem now_any (bb wb : Nat) (i : Int) (w : World) (hB : Blk w bb 43 #[bndF h]) (hW : Blk w wb 24 #[.slice a L.length cap]) (hu : UAt w S a L) (hL : L.length ≤ 9223372036854775807) (hA : Amts L)
    (hb : Bnd w h lim p) (hs : Amt p.2) (hl : Amt lim) (hk : p.1 ≤ 1000000000) :
    Calls Try.prog 23 #[.int .i64 i, .pointer (some ⟨bb, 0, none⟩), .pointer (some ⟨wb, 0, none⟩)] w fun e w' =>
      e = .returned (.bool (((bstep lim p (wOf L i)).1 : Int) == 1)) ∧ Bnd w' h lim (bstep lim p (wOf L i)) ∧ Kept (fun i => i = h + 1 ∨ i = h + 2) w w' := by
  have HWt := Lib.hid (fun w' (hb' : Below w.heap.size w w') => aweight_any (cap := cap) i (hu.below hb') hL hA)
  have HBn := Lib.hid (fun w' (h' : Bnd w' h lim p) => bnd_any w' h' hs (wOf_amt hA i) hl hk)
  have HBl := Lib.hid (And.intro hB (And.intro hW hb))
  have c1 : w.cell? ⟨bb, 0, none⟩ = some (bndF h) := hB.cell 0
  have c2 : w.cell? ⟨wb, 0, none⟩ = some (.slice a L.length cap) := hW.cell 0
  have HC := Lib.hid (And.intro c1 c2)
  clear hB hW hb hu hA c1 c2
  go_enter Try.func23, Try.ntmps23
  go_wp2
  refine wp_region_first (fun w' => w'.cell? ⟨bb, 0, none⟩ = some (bndF h) ∧ w'.cell? ⟨wb, 0, none⟩ = some (.slice a L.length cap)) 4 1 [0, 1, 2] (by kernel_rfl) (by kernel_rfl) HC.out ?_
  simp only [List.filterMap_cons, List.filterMap_nil, List.getElem?_toArray, List.getElem?_cons_zero, List.getElem?_cons_succ]
  show wpQuiet _ _ _ _ [_, _, _] _
  refine q_cell 43 _ ⟨bb, 0, none⟩ (bndF h) rfl rfl rfl (fun w h => by simp [go_sem, h]) (fun w h => h.1) ?_
  refine q_cell 24 _ ⟨wb, 0, none⟩ (.slice a L.length cap) rfl rfl rfl (fun w h => by simp [go_sem, h]) (fun w h => h.2) ?_
  simp only [Act.put, List.setIfInBounds_toArray, List.set_cons_zero, List.set_cons_succ]
  iterate 1 (go_big_quiet_step ((intros; rfl)))
  refine wpQuiet_nil ?_
  refine headF_one (i := 3) (by kernel_rfl) (by omega) ?_
  refine wpOp_at rfl rfl (wp_call_at rfl #[.slice a L.length cap, .int .i64 i] (by kernel_rfl) Try.call24 ((HWt.out w.drew (Below.drew (Below.refl _ _))).mono ?_))
  rintro e w1 ⟨rfl, b1⟩
  have B1 : Hid (Below w.heap.size w w1) := Lib.hid ((Below.drew (Below.refl _ _)).trans b1)
  clear b1
  have K1 : Hid (Bnd w1 h lim p) := Lib.hid (HBl.out.2.2.kept (S := fun _ => False) (Kept.of_below B1.out) (fun _ _ _ h => h))
  refine ⟨_, rfl, ⟨(HBl.out.1.below B1.out HBl.out.1.lt).cell 0, (HBl.out.2.1.below B1.out HBl.out.2.1.lt).cell 0⟩, ?_⟩
  show Region.seqB _ _ _ _ _ = true ∧ _
  refine ⟨by kernel_rfl, ?_⟩
  simp only [Act.put, List.getElem_toArray, List.getElem_cons_zero, List.getElem_cons_succ, List.setIfInBounds_toArray, List.set_cons_zero, List.set_cons_succ, List.drop_succ_cons, List.drop_zero]
  have H4 := Lib.hid (HBn.out w1 K1.out)
  have B2 : Hid (Kept (fun i => i = h + 1 ∨ i = h + 2) w w1) := Lib.hid (Kept.of_below B1.out)
  clear HBn HWt HBl HC K1 B1
  generalize hq : bstep lim p (wOf L i) = q at H4
  have HQ := Lib.hid hq
  clear hq
  unfold bndF
  go_wp2_with fail
  refine H4.out.mono ?_
  rintro e w' ⟨rfl, b4, k4⟩
  have B4 := Lib.hid (And.intro b4 k4)
  clear b4 k4 H4
  go_wp2
  refine NoPanic.normal ?_
  go_wp2
  go_ret
  rw [HQ.out]
  exact ⟨rfl, B4.out.1, B2.out.trans B4.out.2 (fun _ _ h => h)⟩
end
end Go.Proofs.Ytcjohlbglbcglaa
