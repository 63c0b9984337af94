/- do: an operation on a meter and on the reference's. -/
import Derived.Test.YtbebmdbhoombgaaRef
namespace Go.Proofs.Ytbebmdbhoombgaa
open Go Go.RowKit
set_option linter.unusedVariables false
set_option linter.unusedSimpArgs false

/-- A meter and the reference's, apart, both from block L on, with the same values that fit. -/
def Both (w : World) (L b d : Nat) (B S T D : Int) : Prop := MetAt w b B S T D ∧ RefAt w d B S T D ∧ b ≠ d ∧ L ≤ b ∧ L ≤ d ∧ Fits B S T D
section
variable {w w' : World} {L b d : Nat} {B S T D : Int}
theorem Both.below (h : Both w L b d B S T D) (hb : Below w.heap.size w w') : Both w' L b d B S T D :=
  ⟨Blk.below h.1 hb (Blk.lt h.1), Blk.below h.2.1 hb (Blk.lt h.2.1), h.2.2⟩
theorem Both.alloc (h : Both w L b d B S T D) (o : Obj) : Both (w.alloc o) L b d B S T D := ⟨Blk.alloc h.1 o, Blk.alloc h.2.1 o, h.2.2⟩
theorem Both.drewN (h : Both w L b d B S T D) (n : Nat) : Both (w.drewN n) L b d B S T D := h
theorem Both.drew (h : Both w L b d B S T D) : Both w.drew L b d B S T D := h
theorem Both.Lle (h : Both w L b d B S T D) : L ≤ w.heap.size := by
  have := Blk.lt h.1
  have := h.2.2.2.1
  omega
theorem Both.fits (h : Both w L b d B S T D) : Fits B S T D := h.2.2.2.2.2
end
/-- Behind an operation on one of the two: what it answers, what it leaves. -/
def DoesM (f : FuncId) (xs : List Value) (v : Value) (B S T D B' S' T' D' : Int) : Prop :=
  ∀ (b : Nat) (w : World), MetAt w b B S T D → Calls Try.prog f (#[.pointer (some ⟨b, 0, none⟩)] ++ xs.toArray) w fun e w' => e = .returned v ∧ MetAt w' b B' S' T' D' ∧ w.grownBy w' (some b)
def DoesR (f : FuncId) (xs : List Value) (v : Value) (B S T D B' S' T' D' : Int) : Prop :=
  ∀ (d : Nat) (w : World), RefAt w d B S T D → Calls Try.prog f (#[.pointer (some ⟨d, 0, none⟩)] ++ xs.toArray) w fun e w' => e = .returned v ∧ RefAt w' d B' S' T' D' ∧ w.grownBy w' (some d)
section
variable {B S T D x : Int} (hF : Fits B S T D)
include hF
theorem does_grant (x0 : 0 ≤ x) : ∃ B', Fits B' 0 T D ∧ DoesM 16 [.int .u64 x] (.int .u64 B') B S T D B' 0 T D ∧ DoesR 18 [.int .u64 x] (.tuple #[]) B S T D B' 0 T D := by
  obtain ⟨p, hp, hG, hN, hb, _⟩ := grant_eq hF x0
  exact ⟨B + p, hN, fun b w h => grant_any b B S T D x p w h hF hp hG hN hb, fun d w h => refgrant_any d B S T D x p w h hF hp hG hN⟩
theorem does_take (x0 : 0 ≤ x) : ∃ (r : Bool) (B' S' T' : Int), Fits B' S' T' D ∧ DoesM 15 [.int .u64 x] (.bool r) B S T D B' S' T' D ∧ DoesR 19 [.int .u64 x] (.bool r) B S T D B' S' T' D := by
  by_cases h1 : x ≤ B
  · obtain ⟨T', hT, hN, hG, hb⟩ := take_eq hF x0 h1
    exact ⟨true, B - x, S + x, T', hN, fun b w h => take_yes b B S T D T' x w h hF h1 hT hG hb, fun d w h => reftake_yes d B S T D T' x w h hF x0 h1 hT hG⟩
  · exact ⟨false, B, S, T, hF, fun b w h => (take_no b B S T D x w h hF (by omega)).mono fun e w' ⟨he, m, hm⟩ => ⟨he, hm ▸ Blk.drewN h m, hm ▸ only_drewN (only_refl _ _) m⟩,
      fun d w h => (reftake_no d B S T D x w h (by omega)).mono fun e w' ⟨he, m, hm⟩ => ⟨he, hm ▸ Blk.drewN h m, hm ▸ only_drewN (only_refl _ _) m⟩⟩
theorem does_drop : ∃ D', Fits 0 S T D' ∧ DoesM 17 [] (.int .u64 B) B S T D 0 S T D' ∧ DoesR 20 [] (.int .u64 B) B S T D 0 S T D' := by
  obtain ⟨D', hD, hN, hG⟩ := drop_eq hF
  exact ⟨D', hN, fun b w h => drop_any b B S T D D' w h hF hD hG, fun d w h => refdrop_any d B S T D D' w h hD hG⟩
end

/-- Behind do: true; the two agree; all else below L as it was, and so is what is neither of the two. -/
def DoPost (w : World) (L b d : Nat) (e : Ending) (w' : World) : Prop :=
  ∃ B' S' T' D', e = .returned (.bool true) ∧ Both w' L b d B' S' T' D' ∧ (∀ a, Below L a w → Below L a w')
    ∧ (∀ (i : Nat) (t : TypeId) (cs : Array Value), i ≠ b → i ≠ d → Blk w i t cs → Blk w' i t cs)
/-- Two steps, one on each: all that is asked. -/
theorem do_ends {w w0 w1 w2 : World} {L b d : Nat} {B S T D B' S' T' D' : Int} (h : Both w L b d B S T D) (hF : Fits B' S' T' D') (hAL : ∀ (i : Nat) (t : TypeId) (cs : Array Value), Blk w i t cs → Blk w0 i t cs) (hBL : ∀ a, Below L a w → Below L a w0) (h0 : L ≤ w0.heap.size)
    {p q : Nat} (hpq : p = b ∧ q = d ∨ p = d ∧ q = b) (g1 : w0.grownBy w1 (some p)) (g2 : w1.grownBy w2 (some q)) (hm : MetAt w2 b B' S' T' D') (hr : RefAt w2 d B' S' T' D') :
    Both w2 L b d B' S' T' D' ∧ (∀ a, Below L a w → Below L a w2) ∧ (∀ (i : Nat) (t : TypeId) (cs : Array Value), i ≠ b → i ≠ d → Blk w i t cs → Blk w2 i t cs) := by
  obtain ⟨_, _, n0, n1, n2, _⟩ := h
  refine ⟨⟨hm, hr, n0, n1, n2, hF⟩, fun a ha => ?_, fun i t cs hib hid hi => ?_⟩
  · have k1 := below_only (hBL a ha) g1 h0 (by rcases hpq with ⟨rfl, rfl⟩ | ⟨rfl, rfl⟩ <;> assumption)
    exact below_only k1 g2 (Nat.le_trans h0 g1.size) (by rcases hpq with ⟨rfl, rfl⟩ | ⟨rfl, rfl⟩ <;> assumption)
  · exact ((hAL i t cs hi).grown g1 (fun e => by injection e with e; rcases hpq with ⟨rfl, rfl⟩ | ⟨rfl, rfl⟩ <;> contradiction)).grown g2 (fun e => by injection e with e; rcases hpq with ⟨rfl, rfl⟩ | ⟨rfl, rfl⟩ <;> contradiction)

set_option maxHeartbeats 800000 in
theorem do_grant (L b d : Nat) (k x B S T D : Int) (w : World) (h : Both w L b d B S T D) (x0 : 0 ≤ x) (hk : (k == 0) = true) :
    Calls Try.prog 11 #[.pointer (some ⟨b, 0, none⟩), .pointer (some ⟨d, 0, none⟩), .agg #[.int .i64 k, .int .u64 x]] w (DoPost w L b d) := by
  obtain ⟨B', hF', hM, hR⟩ := does_grant h.2.2.2.2.2 x0
  have h0 := h.alloc (.cells #[.int .i64 k, .int .u64 x] 31)
  have hE : Blk (w.alloc (.cells #[.int .i64 k, .int .u64 x] 31)) w.heap.size 31 #[.int .i64 k, .int .u64 x] := Blk.new _ _ _
  have HBE : Hid (some w.heap.size ≠ some b ∧ some w.heap.size ≠ some d ∧ some b ≠ some d ∧ some d ≠ some b) := Lib.hid (by
    have := Blk.lt h.1
    have := Blk.lt h.2.1
    have := h.2.2.1
    refine ⟨fun e => ?_, fun e => ?_, fun e => ?_, fun e => ?_⟩ <;> injection e with e <;> omega)
  have HBL : Hid (∀ a, Below L a w → Below L a (w.alloc (.cells #[.int .i64 k, .int .u64 x] 31))) := Lib.hid (fun a ha => ha.alloc h.Lle _)
  have HAL : Hid (∀ (i : Nat) (t : TypeId) (cs : Array Value), Blk w i t cs → Blk (w.alloc (.cells #[.int .i64 k, .int .u64 x] 31)) i t cs) := Lib.hid (fun i t cs hi => Blk.alloc hi _)
  have HW := Lib.hid h
  have hc0 := hE.cell 0
  have hc1 := hE.cell 1
  have H0 := Lib.hid h0
  have HE := Lib.hid hE
  have HM := Lib.hid hM
  have HR := Lib.hid hR
  have HF := Lib.hid hF'
  clear h h0 hE hM hR hF' x0
  go_enter Try.func11, Try.ntmps11
  go_wp2_with fail
  refine (HR.out d _ H0.out.2.1).mono ?_
  rintro e w1 ⟨rfl, r1, g1⟩
  generalize w.alloc (.cells #[.int .i64 k, .int .u64 x] 31) = W at *
  have E1 : Hid (Blk w1.drew w.heap.size 31 #[.int .i64 k, .int .u64 x]) := Lib.hid (Blk.drew (HE.out.grown g1 HBE.out.2.1))
  have R1 : Hid (RefAt w1.drew d B' 0 T D) := Lib.hid (Blk.drew r1)
  have M1 : Hid (MetAt w1.drew b B S T D) := Lib.hid (Blk.drew (Blk.grown H0.out.1 g1 HBE.out.2.2.1))
  have G1 : Hid (W.grownBy w1.drew (some d)) := Lib.hid (only_drew g1)
  clear r1 g1 hc0 hc1
  go_wp2
  refine wp_region_first (fun w' => Blk w' w.heap.size 31 #[.int .i64 k, .int .u64 x] ∧ RefAt w' d B' 0 T D) 8 1 [0, 1, 2, 4, 5, 6, 7] (by kernel_rfl) (by kernel_rfl) ⟨E1.out, R1.out⟩ ?_
  simp only [List.filterMap_cons, List.filterMap_nil, List.getElem?_toArray, List.getElem?_cons_zero, List.getElem?_cons_succ]
  show wpQuiet _ _ _ _ [_, _, _, _, _, _, _] _
  iterate 2 (go_big_quiet_step ((intros; rfl)))
  refine q_cell 26 _ _ (.int .u64 x) rfl rfl rfl (fun w h => by simp [go_sem, h]) (fun w h => Blk.cell h.1 1) ?_
  simp only [Act.put, List.setIfInBounds_toArray, List.set_cons_zero, List.set_cons_succ]
  iterate 3 (go_big_quiet_step ((intros; rfl)))
  refine q_cell 26 _ _ (.int .u64 B') rfl rfl rfl (fun w h => by simp [go_sem, h]) (fun w h => Blk.cell h.2 0) ?_
  simp only [Act.put, List.setIfInBounds_toArray, List.set_cons_zero, List.set_cons_succ]
  refine wpQuiet_nil ?_
  refine headF_one (i := 3) (by kernel_rfl) (by omega) ?_
  refine wpOp_at rfl rfl (wp_call_at rfl #[.pointer (some ⟨b, 0, none⟩), .int .u64 x] (by kernel_rfl) Try.call16 ((HM.out b _ M1.out).mono ?_))
  rintro e w2 ⟨rfl, m2, g2⟩
  have R2 : RefAt w2 d B' 0 T D := Blk.grown R1.out g2 HBE.out.2.2.2
  refine ⟨_, rfl, ⟨E1.out.grown g2 HBE.out.1, R2⟩, ?_⟩
  have HZ := Lib.hid (do_ends HW.out HF.out HAL.out HBL.out H0.out.Lle (.inr ⟨rfl, rfl⟩) G1.out g2 m2 R2)
  clear m2 g2 R2 E1 R1 M1 G1
  show Region.seqB _ _ _ _ _ = true ∧ _
  refine ⟨by kernel_rfl, ?_⟩
  simp only [Act.put, List.getElem_toArray, List.getElem_cons_zero, List.getElem_cons_succ, List.setIfInBounds_toArray, List.set_cons_zero, List.set_cons_succ, List.drop_succ_cons, List.drop_zero]
  go_wp2
  refine NoPanic.normal ?_
  go_wp2
  go_ret
  exact ⟨B', 0, T, D, rfl, HZ.out⟩

set_option maxHeartbeats 800000 in
theorem do_take (L b d : Nat) (k x B S T D : Int) (w : World) (h : Both w L b d B S T D) (x0 : 0 ≤ x) (hk : (k == 0) = false) (hk1 : (k == 1) = true) :
    Calls Try.prog 11 #[.pointer (some ⟨b, 0, none⟩), .pointer (some ⟨d, 0, none⟩), .agg #[.int .i64 k, .int .u64 x]] w (DoPost w L b d) := by
  obtain ⟨r, B', S', T', hF', hM, hR⟩ := does_take h.2.2.2.2.2 x0
  have h0 := h.alloc (.cells #[.int .i64 k, .int .u64 x] 31)
  have hE : Blk (w.alloc (.cells #[.int .i64 k, .int .u64 x] 31)) w.heap.size 31 #[.int .i64 k, .int .u64 x] := Blk.new _ _ _
  have HBE : Hid (some w.heap.size ≠ some b ∧ some w.heap.size ≠ some d ∧ some b ≠ some d ∧ some d ≠ some b) := Lib.hid (by
    have := Blk.lt h.1
    have := Blk.lt h.2.1
    have := h.2.2.1
    refine ⟨fun e => ?_, fun e => ?_, fun e => ?_, fun e => ?_⟩ <;> injection e with e <;> omega)
  have HBL : Hid (∀ a, Below L a w → Below L a (w.alloc (.cells #[.int .i64 k, .int .u64 x] 31))) := Lib.hid (fun a ha => ha.alloc h.Lle _)
  have HAL : Hid (∀ (i : Nat) (t : TypeId) (cs : Array Value), Blk w i t cs → Blk (w.alloc (.cells #[.int .i64 k, .int .u64 x] 31)) i t cs) := Lib.hid (fun i t cs hi => Blk.alloc hi _)
  have HW := Lib.hid h
  have hc0 := hE.cell 0
  have hc1 := hE.cell 1
  have H0 := Lib.hid h0
  have HE := Lib.hid hE
  have HM := Lib.hid hM
  have HR := Lib.hid hR
  have HF := Lib.hid hF'
  clear h h0 hE hM hR hF' x0
  go_enter Try.func11, Try.ntmps11
  go_wp2
  generalize w.alloc (.cells #[.int .i64 k, .int .u64 x] 31) = W at *
  have D0 : Hid (Blk W.drew w.heap.size 31 #[.int .i64 k, .int .u64 x]) := Lib.hid (Blk.drew HE.out)
  clear hc0 hc1
  refine wp_region_first (fun w' => Blk w' w.heap.size 31 #[.int .i64 k, .int .u64 x]) 8 2 [0, 1, 2, 4, 5, 6] (by kernel_rfl) (by kernel_rfl) D0.out ?_
  simp only [List.filterMap_cons, List.filterMap_nil, List.getElem?_toArray, List.getElem?_cons_zero, List.getElem?_cons_succ]
  show wpQuiet _ _ _ _ [_, _, _, _, _, _] _
  iterate 2 (go_big_quiet_step ((intros; rfl)))
  refine q_cell 26 _ _ (.int .u64 x) rfl rfl rfl (fun w h => by simp [go_sem, h]) (fun w h => Blk.cell h 1) ?_
  simp only [Act.put, List.setIfInBounds_toArray, List.set_cons_zero, List.set_cons_succ]
  iterate 2 (go_big_quiet_step ((intros; rfl)))
  refine q_cell 26 _ _ (.int .u64 x) rfl rfl rfl (fun w h => by simp [go_sem, h]) (fun w h => Blk.cell h 1) ?_
  simp only [Act.put, List.setIfInBounds_toArray, List.set_cons_zero, List.set_cons_succ]
  refine wpQuiet_nil ?_
  refine headF_one (i := 3) (by kernel_rfl) (by omega) ?_
  refine wpOp_at rfl rfl (wp_call_at rfl #[.pointer (some ⟨b, 0, none⟩), .int .u64 x] (by kernel_rfl) Try.call15 ((HM.out b _ (Blk.drew H0.out.1)).mono ?_))
  rintro e w1 ⟨rfl, m1, g1⟩
  refine ⟨_, rfl, D0.out.grown g1 HBE.out.1, ?_⟩
  refine headF_one (i := 7) (by kernel_rfl) (by omega) ?_
  refine wpOp_at rfl rfl (wp_call_at rfl #[.pointer (some ⟨d, 0, none⟩), .int .u64 x] (by kernel_rfl) Try.call19 ((HR.out d _ (Blk.grown (Blk.drew H0.out.2.1) g1 HBE.out.2.2.2)).mono ?_))
  rintro e w2 ⟨rfl, r2, g2⟩
  refine ⟨_, rfl, (D0.out.grown g1 HBE.out.1).grown g2 HBE.out.2.1, ?_⟩
  have m2 : MetAt w2 b B' S' T' D := Blk.grown m1 g2 HBE.out.2.2.1
  have HZ := Lib.hid (do_ends HW.out HF.out (fun i t cs hi => Blk.drew (HAL.out i t cs hi)) (fun a ha => (HBL.out a ha).drew) (w0 := W.drew) H0.out.Lle (.inl ⟨rfl, rfl⟩) g1 g2 m2 r2)
  clear m2 r2 g2 m1 g1 D0
  show Region.seqB _ _ _ _ _ = true ∧ _
  refine ⟨by kernel_rfl, ?_⟩
  simp only [Act.put, List.getElem_toArray, List.getElem_cons_zero, List.getElem_cons_succ, List.setIfInBounds_toArray, List.set_cons_zero, List.set_cons_succ, List.drop_succ_cons, List.drop_zero]
  go_wp2
  refine NoPanic.normal ?_
  go_wp2
  go_ret
  exact ⟨B', S', T', D, rfl, HZ.out⟩

set_option maxHeartbeats 800000 in
theorem do_drop (L b d : Nat) (k x B S T D : Int) (w : World) (h : Both w L b d B S T D) (hk : (k == 0) = false) (hk1 : (k == 1) = false) :
    Calls Try.prog 11 #[.pointer (some ⟨b, 0, none⟩), .pointer (some ⟨d, 0, none⟩), .agg #[.int .i64 k, .int .u64 x]] w (DoPost w L b d) := by
  obtain ⟨D', hF', hM, hR⟩ := does_drop h.2.2.2.2.2
  have h0 := h.alloc (.cells #[.int .i64 k, .int .u64 x] 31)
  have hE : Blk (w.alloc (.cells #[.int .i64 k, .int .u64 x] 31)) w.heap.size 31 #[.int .i64 k, .int .u64 x] := Blk.new _ _ _
  have HBE : Hid (some w.heap.size ≠ some b ∧ some w.heap.size ≠ some d ∧ some b ≠ some d ∧ some d ≠ some b) := Lib.hid (by
    have := Blk.lt h.1
    have := Blk.lt h.2.1
    have := h.2.2.1
    refine ⟨fun e => ?_, fun e => ?_, fun e => ?_, fun e => ?_⟩ <;> injection e with e <;> omega)
  have HBL : Hid (∀ a, Below L a w → Below L a (w.alloc (.cells #[.int .i64 k, .int .u64 x] 31))) := Lib.hid (fun a ha => ha.alloc h.Lle _)
  have HAL : Hid (∀ (i : Nat) (t : TypeId) (cs : Array Value), Blk w i t cs → Blk (w.alloc (.cells #[.int .i64 k, .int .u64 x] 31)) i t cs) := Lib.hid (fun i t cs hi => Blk.alloc hi _)
  have HW := Lib.hid h
  have hc0 := hE.cell 0
  have hc1 := hE.cell 1
  have H0 := Lib.hid h0
  have HE := Lib.hid hE
  have HM := Lib.hid hM
  have HR := Lib.hid hR
  have HF := Lib.hid hF'
  clear h h0 hE hM hR hF' hc1
  go_enter Try.func11, Try.ntmps11
  go_wp2_with fail
  refine (HM.out b _ H0.out.1).mono ?_
  rintro e w1 ⟨rfl, m1, g1⟩
  generalize w.alloc (.cells #[.int .i64 k, .int .u64 x] 31) = W at *
  have R1 : Hid (RefAt w1 d B S T D) := Lib.hid (Blk.grown H0.out.2.1 g1 HBE.out.2.2.2)
  have M1 := Lib.hid m1
  have G1 := Lib.hid g1
  clear m1 g1 hc0
  go_wp2_with fail
  refine (HR.out d _ R1.out).mono ?_
  rintro e w2 ⟨rfl, r2, g2⟩
  have HZ := Lib.hid (do_ends HW.out HF.out HAL.out HBL.out H0.out.Lle (.inl ⟨rfl, rfl⟩) G1.out g2 (Blk.grown M1.out g2 HBE.out.2.2.1) r2)
  clear r2 g2 R1 M1 G1
  go_wp2_with fail
  go_ret
  exact ⟨0, S, T, D', rfl, HZ.out⟩
/-- do, whatever the operation. -/
theorem do_any (L b d : Nat) (k x B S T D : Int) (w : World) (h : Both w L b d B S T D) (x0 : 0 ≤ x) :
    Calls Try.prog 11 #[.pointer (some ⟨b, 0, none⟩), .pointer (some ⟨d, 0, none⟩), .agg #[.int .i64 k, .int .u64 x]] w (DoPost w L b d) := by
  by_cases h0 : k = 0
  · exact do_grant L b d k x B S T D w h x0 (by simpa using h0)
  · by_cases h1 : k = 1
    · exact do_take L b d k x B S T D w h x0 (by simpa using h0) (by simpa using h1)
    · exact do_drop L b d k x B S T D w h (by simpa using h0) (by simpa using h1)
end Go.Proofs.Ytbebmdbhoombgaa
