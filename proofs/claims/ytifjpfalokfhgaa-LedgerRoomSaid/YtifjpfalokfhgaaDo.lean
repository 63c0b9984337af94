/- do: an entry in a ledger and in the reference's. -/
import Derived.Test.YtifjpfalokfhgaaLive
namespace Go.Proofs.Ytifjpfalokfhgaa
open Go Go.RowKit
set_option linter.unusedVariables false
set_option linter.unusedSimpArgs false

/-- A ledger and the reference's, apart, both from block L on, with the same totals that fit. -/
def Both (w : World) (L b d : Nat) (D P B C : Int) : Prop := LedAt w b D P B C ∧ RefAt w d D P B C ∧ b ≠ d ∧ L ≤ b ∧ L ≤ d ∧ Fits D P B C
section
variable {w w' : World} {L b d : Nat} {D P B C : Int}
theorem Both.below (h : Both w L b d D P B C) (hb : Below w.heap.size w w') : Both w' L b d D P B C :=
  ⟨Blk.below h.1 hb (Blk.lt h.1), Blk.below h.2.1 hb (Blk.lt h.2.1), h.2.2⟩
theorem Both.alloc (h : Both w L b d D P B C) (o : Obj) : Both (w.alloc o) L b d D P B C := ⟨Blk.alloc h.1 o, Blk.alloc h.2.1 o, h.2.2⟩
theorem Both.drewN (h : Both w L b d D P B C) (n : Nat) : Both (w.drewN n) L b d D P B C := h
theorem Both.Lle (h : Both w L b d D P B C) : L ≤ w.heap.size := by
  have := Blk.lt h.1
  have := h.2.2.2.1
  omega
end
/-- What an operation does, on a ledger and on the reference's: the code r, the new totals. -/
def Does (f g : Nat) (x D P B C r D' P' B' : Int) : Prop :=
  Fits D' P' B' C ∧ (r ≠ 0 → D' = D ∧ P' = P ∧ B' = B) ∧ 0 ≤ r ∧ r ≤ 10 ∧
  (∀ (b : Nat) (w : World), LedAt w b D P B C → Calls Try.prog f #[.pointer (some ⟨b, 0, none⟩), .int .u64 x] w fun e w' => e = .returned (.int .i64 r) ∧ LedAt w' b D' P' B' C ∧ w.grownBy w' (some b)) ∧
  (∀ (d : Nat) (w : World), RefAt w d D P B C → Calls Try.prog g #[.pointer (some ⟨d, 0, none⟩), .int .u64 x] w fun e w' => e = .returned (.int .i64 r) ∧ RefAt w' d D' P' B' C ∧ w.grownBy w' (some d))
section
variable {D P B C x : Int} (hF : Fits D P B C) (x0 : 0 ≤ x) (x1 : x ≤ 18446744073709551615)
include hF x0 x1
theorem does_dep : ∃ r D' P' B', Does 18 21 x D P B C r D' P' B' := by
  by_cases h1 : x ≤ C - (D - P - B)
  · by_cases h2 : D + x ≤ 18446744073709551615
    · exact ⟨0, D + x, P, B, by unfold Fits at hF ⊢; omega, fun h => absurd rfl h, by omega, by omega, fun b w h => deposit_ok b D P B C x w h hF x0 h1 h2, fun d w h => refdep_ok d D P B C x w h hF x0 x1 h1 h2⟩
    · exact ⟨10, D, P, B, hF, fun _ => ⟨rfl, rfl, rfl⟩, by omega, by omega,
        fun b w h => (deposit_over b D P B C x w h hF x0 x1 h1 (by omega)).mono fun e w' ⟨he, hb⟩ => ⟨he, Blk.below h hb (Blk.lt h), only_of_below hb _⟩,
        fun d w h => (refdep_over d D P B C x w h hF x0 x1 h1 (by omega)).mono fun e w' ⟨he, hb⟩ => ⟨he, Blk.below h hb (Blk.lt h), only_of_below hb _⟩⟩
  · exact ⟨4, D, P, B, hF, fun _ => ⟨rfl, rfl, rfl⟩, by omega, by omega,
      fun b w h => (deposit_supply b D P B C x w h hF (by omega)).mono fun e w' ⟨he, m, hm⟩ => ⟨he, hm ▸ Blk.drewN h m, hm ▸ only_drewN (only_refl _ _) m⟩,
      fun d w h => (refdep_supply d D P B C x w h hF x0 x1 (by omega)).mono fun e w' ⟨he, hb⟩ => ⟨he, Blk.below h hb (Blk.lt h), only_of_below hb _⟩⟩
theorem does_pay : ∃ r D' P' B', Does 19 22 x D P B C r D' P' B' := by
  by_cases h1 : x ≤ D - P - B
  · exact ⟨0, D, P + x, B, by unfold Fits at hF ⊢; omega, fun h => absurd rfl h, by omega, by omega, fun b w h => pay_yes b D P B C x w h hF x0 h1, fun d w h => refpay_yes d D P B C x w h hF x0 h1⟩
  · exact ⟨3, D, P, B, hF, fun _ => ⟨rfl, rfl, rfl⟩, by omega, by omega,
      fun b w h => (pay_no b D P B C x w h hF (by omega)).mono fun e w' ⟨he, hb⟩ => ⟨he, Blk.below h hb (Blk.lt h), only_of_below hb _⟩,
      fun d w h => (refpay_no d D P B C x w h hF (by omega)).mono fun e w' ⟨he, m, hm⟩ => ⟨he, hm ▸ Blk.drewN h m, hm ▸ only_drewN (only_refl _ _) m⟩⟩
theorem does_burn : ∃ r D' P' B', Does 20 23 x D P B C r D' P' B' := by
  by_cases h1 : x ≤ D - P - B
  · exact ⟨0, D, P, B + x, by unfold Fits at hF ⊢; omega, fun h => absurd rfl h, by omega, by omega, fun b w h => burn_yes b D P B C x w h hF x0 h1, fun d w h => refburn_yes d D P B C x w h hF x0 h1⟩
  · exact ⟨3, D, P, B, hF, fun _ => ⟨rfl, rfl, rfl⟩, by omega, by omega,
      fun b w h => (burn_no b D P B C x w h hF (by omega)).mono fun e w' ⟨he, hb⟩ => ⟨he, Blk.below h hb (Blk.lt h), only_of_below hb _⟩,
      fun d w h => (refburn_no d D P B C x w h hF (by omega)).mono fun e w' ⟨he, m, hm⟩ => ⟨he, hm ▸ Blk.drewN h m, hm ▸ only_drewN (only_refl _ _) m⟩⟩
end

/-- Behind do: the same code twice, the two as before or as it says, all else below L as it was. -/
def DoPost (w : World) (L b d : Nat) (D P B C : Int) (e : Ending) (w' : World) : Prop :=
  ∃ r D' P' B', e = .returned (.tuple #[.int .i64 r, .int .i64 r]) ∧ 0 ≤ r ∧ r ≤ 10 ∧ (r ≠ 0 → D' = D ∧ P' = P ∧ B' = B) ∧ Both w' L b d D' P' B' C ∧ (∀ a, Below L a w → Below L a w')
    ∧ (∀ (i : Nat) (t : TypeId) (cs : Array Value), i ≠ b → i ≠ d → Blk w i t cs → Blk w' i t cs)

set_option maxHeartbeats 800000 in
theorem do_dep (L b d : Nat) (k x D P B C : Int) (w : World) (h : Both w L b d D P B C) (x0 : 0 ≤ x) (x1 : x ≤ 18446744073709551615) (hk : (k == 0) = true) :
    Calls Try.prog 11 #[.pointer (some ⟨b, 0, none⟩), .pointer (some ⟨d, 0, none⟩), .agg #[.int .i64 k, .int .u64 x]] w (DoPost w L b d D P B C) := by
  obtain ⟨r, D', P', B', hF', hr, r0, r1, hled, href⟩ := does_dep h.2.2.2.2.2 x0 x1
  have h0 := h.alloc (.cells #[.int .i64 k, .int .u64 x] 31)
  have hE : Blk (w.alloc (.cells #[.int .i64 k, .int .u64 x] 31)) w.heap.size 31 #[.int .i64 k, .int .u64 x] := Blk.new _ _ _
  have hbe : ¬ w.heap.size = b := by have := Blk.lt h.1; omega
  have hde : ¬ w.heap.size = d := by have := Blk.lt h.2.1; omega
  have HBL : Hid (∀ a, Below L a w → Below L a (w.alloc (.cells #[.int .i64 k, .int .u64 x] 31))) := Lib.hid (fun a ha => ha.alloc h.Lle _)
  have HAL : Hid (∀ (i : Nat) (t : TypeId) (cs : Array Value), Blk w i t cs → Blk (w.alloc (.cells #[.int .i64 k, .int .u64 x] 31)) i t cs) := Lib.hid (fun i t cs hi => Blk.alloc hi _)
  have hc0 := hE.cell 0
  have H0 := Lib.hid h0
  have HE := Lib.hid hE
  have HL := Lib.hid hled
  have HR := Lib.hid href
  have HF := Lib.hid hF'
  have HRR := Lib.hid hr
  have HBE : Hid (some w.heap.size ≠ some b) := Lib.hid (fun e => hbe (by injection e))
  have HDE : Hid (some w.heap.size ≠ some d) := Lib.hid (fun e => hde (by injection e))
  clear h h0 hE hled href hF' hr hc0 hbe hde
  go_enter Try.func11, Try.ntmps11
  go_wp2
  generalize w.alloc (.cells #[.int .i64 k, .int .u64 x] 31) = W at *
  have D0 : Hid (Blk W.drew w.heap.size 31 #[.int .i64 k, .int .u64 x]) := Lib.hid (Blk.drew HE.out)
  refine wp_region_first (fun w' => Blk w' w.heap.size 31 #[.int .i64 k, .int .u64 x]) 8 2 [0, 1, 2, 4, 5, 6] (by kernel_rfl) (by kernel_rfl) D0.out ?_
  simp only [List.filterMap_cons, List.filterMap_nil, List.getElem?_toArray, List.getElem?_cons_zero, List.getElem?_cons_succ]
  show wpQuiet _ _ _ _ [_, _, _, _, _, _] _
  iterate 2 (go_big_quiet_step ((intros; rfl)))
  refine q_cell 22 _ _ (.int .u64 x) rfl rfl rfl (fun w h => by simp [go_sem, h]) (fun w h => Blk.cell h 1) ?_
  simp only [Act.put, List.setIfInBounds_toArray, List.set_cons_zero, List.set_cons_succ]
  iterate 2 (go_big_quiet_step ((intros; rfl)))
  refine q_cell 22 _ _ (.int .u64 x) rfl rfl rfl (fun w h => by simp [go_sem, h]) (fun w h => Blk.cell h 1) ?_
  simp only [Act.put, List.setIfInBounds_toArray, List.set_cons_zero, List.set_cons_succ]
  refine wpQuiet_nil ?_
  refine headF_one (i := 3) (by kernel_rfl) (by omega) ?_
  refine wpOp_at rfl rfl (wp_call_at rfl #[.pointer (some ⟨b, 0, none⟩), .int .u64 x] (by kernel_rfl) Try.call18 ((HL.out b _ (Blk.drew H0.out.1)).mono ?_))
  rintro e w1 ⟨rfl, l1, g1⟩
  refine ⟨_, rfl, D0.out.grown g1 HBE.out, ?_⟩
  have rf1 : RefAt w1 d D P B C := (Blk.drew H0.out.2.1).grown g1 (fun e => H0.out.2.2.1 (by injection e with e; exact e.symm))
  refine headF_one (i := 7) (by kernel_rfl) (by omega) ?_
  refine wpOp_at rfl rfl (wp_call_at rfl #[.pointer (some ⟨d, 0, none⟩), .int .u64 x] (by kernel_rfl) Try.call21 ((HR.out d _ rf1).mono ?_))
  rintro e w2 ⟨rfl, rf2, g2⟩
  refine ⟨_, rfl, (D0.out.grown g1 HBE.out).grown g2 HDE.out, ?_⟩
  have l2 : LedAt w2 b D' P' B' C := Blk.grown l1 g2 (fun e => H0.out.2.2.1 (by injection e))
  have hend : Both w2 L b d D' P' B' C ∧ (∀ a, Below L a w → Below L a w2) ∧ (∀ (i : Nat) (t : TypeId) (cs : Array Value), i ≠ b → i ≠ d → Blk w i t cs → Blk w2 i t cs) := by
    refine ⟨⟨l2, rf2, H0.out.2.2.1, H0.out.2.2.2.1, H0.out.2.2.2.2.1, HF.out⟩, fun a ha => ?_, fun i t cs hib hid hi => ?_⟩
    · have k1 := below_only (HBL.out a ha).drew g1 H0.out.Lle H0.out.2.2.2.1
      exact below_only k1 g2 (Nat.le_trans H0.out.Lle g1.size) H0.out.2.2.2.2.1
    · exact ((Blk.drew (HAL.out i t cs hi)).grown g1 (fun e => hib (by injection e))).grown g2 (fun e => hid (by injection e))
  have HZ := Lib.hid hend
  clear hend l2 rf2 g2 rf1 l1 g1
  show Region.seqB _ _ _ _ _ = true ∧ _
  refine ⟨by kernel_rfl, ?_⟩
  simp only [Act.put, List.getElem_toArray, List.getElem_cons_zero, List.getElem_cons_succ, List.setIfInBounds_toArray, List.set_cons_zero, List.set_cons_succ, List.drop_succ_cons, List.drop_zero]
  go_wp2
  refine NoPanic.normal ?_
  go_wp2
  go_ret2
  exact ⟨r, D', P', B', rfl, r0, r1, HRR.out, HZ.out⟩

set_option maxHeartbeats 800000 in
theorem do_pay (L b d : Nat) (k x D P B C : Int) (w : World) (h : Both w L b d D P B C) (x0 : 0 ≤ x) (x1 : x ≤ 18446744073709551615) (hk : (k == 0) = false) (hk1 : (k == 1) = true) :
    Calls Try.prog 11 #[.pointer (some ⟨b, 0, none⟩), .pointer (some ⟨d, 0, none⟩), .agg #[.int .i64 k, .int .u64 x]] w (DoPost w L b d D P B C) := by
  obtain ⟨r, D', P', B', hF', hr, r0, r1, hled, href⟩ := does_pay h.2.2.2.2.2 x0 x1
  have h0 := h.alloc (.cells #[.int .i64 k, .int .u64 x] 31)
  have hE : Blk (w.alloc (.cells #[.int .i64 k, .int .u64 x] 31)) w.heap.size 31 #[.int .i64 k, .int .u64 x] := Blk.new _ _ _
  have hbe : ¬ w.heap.size = b := by have := Blk.lt h.1; omega
  have hde : ¬ w.heap.size = d := by have := Blk.lt h.2.1; omega
  have HBL : Hid (∀ a, Below L a w → Below L a (w.alloc (.cells #[.int .i64 k, .int .u64 x] 31))) := Lib.hid (fun a ha => ha.alloc h.Lle _)
  have HAL : Hid (∀ (i : Nat) (t : TypeId) (cs : Array Value), Blk w i t cs → Blk (w.alloc (.cells #[.int .i64 k, .int .u64 x] 31)) i t cs) := Lib.hid (fun i t cs hi => Blk.alloc hi _)
  have hc0 := hE.cell 0
  have H0 := Lib.hid h0
  have HE := Lib.hid hE
  have HL := Lib.hid hled
  have HR := Lib.hid href
  have HF := Lib.hid hF'
  have HRR := Lib.hid hr
  have HBE : Hid (some w.heap.size ≠ some b) := Lib.hid (fun e => hbe (by injection e))
  have HDE : Hid (some w.heap.size ≠ some d) := Lib.hid (fun e => hde (by injection e))
  clear h h0 hE hled href hF' hr hc0 hbe hde
  go_enter Try.func11, Try.ntmps11
  go_wp2
  generalize w.alloc (.cells #[.int .i64 k, .int .u64 x] 31) = W at *
  have D0 : Hid (Blk W.drew w.heap.size 31 #[.int .i64 k, .int .u64 x]) := Lib.hid (Blk.drew HE.out)
  refine wp_region_first (fun w' => Blk w' w.heap.size 31 #[.int .i64 k, .int .u64 x]) 8 2 [0, 1, 2, 4, 5, 6] (by kernel_rfl) (by kernel_rfl) D0.out ?_
  simp only [List.filterMap_cons, List.filterMap_nil, List.getElem?_toArray, List.getElem?_cons_zero, List.getElem?_cons_succ]
  show wpQuiet _ _ _ _ [_, _, _, _, _, _] _
  iterate 2 (go_big_quiet_step ((intros; rfl)))
  refine q_cell 22 _ _ (.int .u64 x) rfl rfl rfl (fun w h => by simp [go_sem, h]) (fun w h => Blk.cell h 1) ?_
  simp only [Act.put, List.setIfInBounds_toArray, List.set_cons_zero, List.set_cons_succ]
  iterate 2 (go_big_quiet_step ((intros; rfl)))
  refine q_cell 22 _ _ (.int .u64 x) rfl rfl rfl (fun w h => by simp [go_sem, h]) (fun w h => Blk.cell h 1) ?_
  simp only [Act.put, List.setIfInBounds_toArray, List.set_cons_zero, List.set_cons_succ]
  refine wpQuiet_nil ?_
  refine headF_one (i := 3) (by kernel_rfl) (by omega) ?_
  refine wpOp_at rfl rfl (wp_call_at rfl #[.pointer (some ⟨b, 0, none⟩), .int .u64 x] (by kernel_rfl) Try.call19 ((HL.out b _ (Blk.drew H0.out.1)).mono ?_))
  rintro e w1 ⟨rfl, l1, g1⟩
  refine ⟨_, rfl, D0.out.grown g1 HBE.out, ?_⟩
  have rf1 : RefAt w1 d D P B C := (Blk.drew H0.out.2.1).grown g1 (fun e => H0.out.2.2.1 (by injection e with e; exact e.symm))
  refine headF_one (i := 7) (by kernel_rfl) (by omega) ?_
  refine wpOp_at rfl rfl (wp_call_at rfl #[.pointer (some ⟨d, 0, none⟩), .int .u64 x] (by kernel_rfl) Try.call22 ((HR.out d _ rf1).mono ?_))
  rintro e w2 ⟨rfl, rf2, g2⟩
  refine ⟨_, rfl, (D0.out.grown g1 HBE.out).grown g2 HDE.out, ?_⟩
  have l2 : LedAt w2 b D' P' B' C := Blk.grown l1 g2 (fun e => H0.out.2.2.1 (by injection e))
  have hend : Both w2 L b d D' P' B' C ∧ (∀ a, Below L a w → Below L a w2) ∧ (∀ (i : Nat) (t : TypeId) (cs : Array Value), i ≠ b → i ≠ d → Blk w i t cs → Blk w2 i t cs) := by
    refine ⟨⟨l2, rf2, H0.out.2.2.1, H0.out.2.2.2.1, H0.out.2.2.2.2.1, HF.out⟩, fun a ha => ?_, fun i t cs hib hid hi => ?_⟩
    · have k1 := below_only (HBL.out a ha).drew g1 H0.out.Lle H0.out.2.2.2.1
      exact below_only k1 g2 (Nat.le_trans H0.out.Lle g1.size) H0.out.2.2.2.2.1
    · exact ((Blk.drew (HAL.out i t cs hi)).grown g1 (fun e => hib (by injection e))).grown g2 (fun e => hid (by injection e))
  have HZ := Lib.hid hend
  clear hend l2 rf2 g2 rf1 l1 g1
  show Region.seqB _ _ _ _ _ = true ∧ _
  refine ⟨by kernel_rfl, ?_⟩
  simp only [Act.put, List.getElem_toArray, List.getElem_cons_zero, List.getElem_cons_succ, List.setIfInBounds_toArray, List.set_cons_zero, List.set_cons_succ, List.drop_succ_cons, List.drop_zero]
  go_wp2
  refine NoPanic.normal ?_
  go_wp2
  go_ret2
  exact ⟨r, D', P', B', rfl, r0, r1, HRR.out, HZ.out⟩

set_option maxHeartbeats 800000 in
theorem do_burn (L b d : Nat) (k x D P B C : Int) (w : World) (h : Both w L b d D P B C) (x0 : 0 ≤ x) (x1 : x ≤ 18446744073709551615) (hk : (k == 0) = false) (hk1 : (k == 1) = false) :
    Calls Try.prog 11 #[.pointer (some ⟨b, 0, none⟩), .pointer (some ⟨d, 0, none⟩), .agg #[.int .i64 k, .int .u64 x]] w (DoPost w L b d D P B C) := by
  obtain ⟨r, D', P', B', hF', hr, r0, r1, hled, href⟩ := does_burn h.2.2.2.2.2 x0 x1
  have h0 := h.alloc (.cells #[.int .i64 k, .int .u64 x] 31)
  have hE : Blk (w.alloc (.cells #[.int .i64 k, .int .u64 x] 31)) w.heap.size 31 #[.int .i64 k, .int .u64 x] := Blk.new _ _ _
  have hbe : ¬ w.heap.size = b := by have := Blk.lt h.1; omega
  have hde : ¬ w.heap.size = d := by have := Blk.lt h.2.1; omega
  have HBL : Hid (∀ a, Below L a w → Below L a (w.alloc (.cells #[.int .i64 k, .int .u64 x] 31))) := Lib.hid (fun a ha => ha.alloc h.Lle _)
  have HAL : Hid (∀ (i : Nat) (t : TypeId) (cs : Array Value), Blk w i t cs → Blk (w.alloc (.cells #[.int .i64 k, .int .u64 x] 31)) i t cs) := Lib.hid (fun i t cs hi => Blk.alloc hi _)
  have hc0 := hE.cell 0
  have H0 := Lib.hid h0
  have HE := Lib.hid hE
  have HL := Lib.hid hled
  have HR := Lib.hid href
  have HF := Lib.hid hF'
  have HRR := Lib.hid hr
  have HBE : Hid (some w.heap.size ≠ some b) := Lib.hid (fun e => hbe (by injection e))
  have HDE : Hid (some w.heap.size ≠ some d) := Lib.hid (fun e => hde (by injection e))
  clear h h0 hE hled href hF' hr hc0 hbe hde
  go_enter Try.func11, Try.ntmps11
  go_wp2
  generalize w.alloc (.cells #[.int .i64 k, .int .u64 x] 31) = W at *
  have D0 : Hid (Blk W.drew w.heap.size 31 #[.int .i64 k, .int .u64 x]) := Lib.hid (Blk.drew HE.out)
  refine wp_region_first (fun w' => Blk w' w.heap.size 31 #[.int .i64 k, .int .u64 x]) 8 2 [0, 1, 2, 4, 5, 6] (by kernel_rfl) (by kernel_rfl) D0.out ?_
  simp only [List.filterMap_cons, List.filterMap_nil, List.getElem?_toArray, List.getElem?_cons_zero, List.getElem?_cons_succ]
  show wpQuiet _ _ _ _ [_, _, _, _, _, _] _
  iterate 2 (go_big_quiet_step ((intros; rfl)))
  refine q_cell 22 _ _ (.int .u64 x) rfl rfl rfl (fun w h => by simp [go_sem, h]) (fun w h => Blk.cell h 1) ?_
  simp only [Act.put, List.setIfInBounds_toArray, List.set_cons_zero, List.set_cons_succ]
  iterate 2 (go_big_quiet_step ((intros; rfl)))
  refine q_cell 22 _ _ (.int .u64 x) rfl rfl rfl (fun w h => by simp [go_sem, h]) (fun w h => Blk.cell h 1) ?_
  simp only [Act.put, List.setIfInBounds_toArray, List.set_cons_zero, List.set_cons_succ]
  refine wpQuiet_nil ?_
  refine headF_one (i := 3) (by kernel_rfl) (by omega) ?_
  refine wpOp_at rfl rfl (wp_call_at rfl #[.pointer (some ⟨b, 0, none⟩), .int .u64 x] (by kernel_rfl) Try.call20 ((HL.out b _ (Blk.drew H0.out.1)).mono ?_))
  rintro e w1 ⟨rfl, l1, g1⟩
  refine ⟨_, rfl, D0.out.grown g1 HBE.out, ?_⟩
  have rf1 : RefAt w1 d D P B C := (Blk.drew H0.out.2.1).grown g1 (fun e => H0.out.2.2.1 (by injection e with e; exact e.symm))
  refine headF_one (i := 7) (by kernel_rfl) (by omega) ?_
  refine wpOp_at rfl rfl (wp_call_at rfl #[.pointer (some ⟨d, 0, none⟩), .int .u64 x] (by kernel_rfl) Try.call23 ((HR.out d _ rf1).mono ?_))
  rintro e w2 ⟨rfl, rf2, g2⟩
  refine ⟨_, rfl, (D0.out.grown g1 HBE.out).grown g2 HDE.out, ?_⟩
  have l2 : LedAt w2 b D' P' B' C := Blk.grown l1 g2 (fun e => H0.out.2.2.1 (by injection e))
  have hend : Both w2 L b d D' P' B' C ∧ (∀ a, Below L a w → Below L a w2) ∧ (∀ (i : Nat) (t : TypeId) (cs : Array Value), i ≠ b → i ≠ d → Blk w i t cs → Blk w2 i t cs) := by
    refine ⟨⟨l2, rf2, H0.out.2.2.1, H0.out.2.2.2.1, H0.out.2.2.2.2.1, HF.out⟩, fun a ha => ?_, fun i t cs hib hid hi => ?_⟩
    · have k1 := below_only (HBL.out a ha).drew g1 H0.out.Lle H0.out.2.2.2.1
      exact below_only k1 g2 (Nat.le_trans H0.out.Lle g1.size) H0.out.2.2.2.2.1
    · exact ((Blk.drew (HAL.out i t cs hi)).grown g1 (fun e => hib (by injection e))).grown g2 (fun e => hid (by injection e))
  have HZ := Lib.hid hend
  clear hend l2 rf2 g2 rf1 l1 g1
  show Region.seqB _ _ _ _ _ = true ∧ _
  refine ⟨by kernel_rfl, ?_⟩
  simp only [Act.put, List.getElem_toArray, List.getElem_cons_zero, List.getElem_cons_succ, List.setIfInBounds_toArray, List.set_cons_zero, List.set_cons_succ, List.drop_succ_cons, List.drop_zero]
  go_wp2
  refine NoPanic.normal ?_
  go_wp2
  go_ret2
  exact ⟨r, D', P', B', rfl, r0, r1, HRR.out, HZ.out⟩
/-- do, whatever the entry. -/
theorem do_any (L b d : Nat) (k x D P B C : Int) (w : World) (h : Both w L b d D P B C) (x0 : 0 ≤ x) (x1 : x ≤ 18446744073709551615) :
    Calls Try.prog 11 #[.pointer (some ⟨b, 0, none⟩), .pointer (some ⟨d, 0, none⟩), .agg #[.int .i64 k, .int .u64 x]] w (DoPost w L b d D P B C) := by
  by_cases h0 : k = 0
  · exact do_dep L b d k x D P B C w h x0 x1 (by simpa using h0)
  · by_cases h1 : k = 1
    · exact do_pay L b d k x D P B C w h x0 x1 (by simpa using h0) (by simpa using h1)
    · exact do_burn L b d k x D P B C w h x0 x1 (by simpa using h0) (by simpa using h1)
end Go.Proofs.Ytifjpfalokfhgaa
