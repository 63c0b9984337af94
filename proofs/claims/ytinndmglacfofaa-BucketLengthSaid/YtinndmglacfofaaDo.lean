/- do: an operation on a ring and on the reference's. -/
import Derived.Test.YtinndmglacfofaaRefE
namespace Go.Proofs.Ytinndmglacfofaa
open Go Go.RowKit Go.Deep
set_option linter.unusedVariables false
set_option linter.unusedSimpArgs false

def okE (ep : Int) : Bool := decide (0 ≤ ep ∧ ep ≤ 1099511627776)
def putL (L : List Ent) (ep it : Int) : List Ent := if okE ep then L ++ [(ep, it)] else L
def stepL (L : List Ent) (o : OpV) : List Ent := if o.due then stay o.ep L else putL L o.ep o.it
theorem goes_out {L : List Ent} (h : OkE L) {ep : Int} (he : ep < 0 ∨ 1099511627776 < ep) : goes ep L = [] ∧ stay ep L = L := by
  have hne : ∀ e ∈ L, e.1 ≠ ep := fun e hm => by have := h e hm; omega
  exact ⟨by rw [goes, filter_none hne]; rfl, by rw [stay, List.filter_eq_self]; intro e hm; simpa using hne e hm⟩
theorem stepL_len (L : List Ent) (o : OpV) : (stepL L o).length ≤ L.length + 1 := by
  unfold stepL putL
  split
  · exact Nat.le_succ_of_le (stay_len _ _)
  · split <;> simp
theorem due_all (b n : Nat) (S : Nat → Prop) (L : List Ent) (ep : Int) (w : World) (h : Ring w b S n L) (hL : L.length ≤ 100000) :
    Calls Try.prog 20 #[.pointer (some ⟨b, 0, none⟩), .int .i64 ep] w fun e w' => ∃ v S', e = .returned v ∧ w'.ownsRow w.heap.size 3 1 v (goes ep L).length ((goes ep L).map (Value.int .i64)) ∧ Ring w' b S' n (stay ep L) ∧ (∀ i, S' i → S i) ∧ Kept S w w' := by
  by_cases h0 : ep < 0 ∨ 1099511627776 < ep
  · obtain ⟨g1, g2⟩ := goes_out h.fits.2.2 h0
    refine (due_no (some ⟨b, 0, none⟩) ep w (.inr h0)).mono ?_
    rintro e w' ⟨he, rfl⟩
    exact ⟨_, S, he, by rw [g1]; exact World.ownsRow_nil _ _ _ _, by rw [g2]; exact h, fun _ h => h, Kept.refl _ _⟩
  · exact due_any b n S L ep w h (by omega) (by omega) hL
theorem put_all (b n : Nat) (S : Nat → Prop) (L : List Ent) (ep it : Int) (w : World) (h : Ring w b S n L) (hL : L.length ≤ 100000) :
    Calls Try.prog 19 #[.pointer (some ⟨b, 0, none⟩), .int .i64 ep, .int .i64 it] w fun e w' => e = .returned (.bool (okE ep)) ∧ ∃ S', Ring w' b S' n (putL L ep it) ∧ (∀ i, S' i → S i ∨ w.heap.size ≤ i) ∧ Kept S w w' := by
  by_cases h0 : 0 ≤ ep ∧ ep ≤ 1099511627776
  · have hk : okE ep = true := decide_eq_true h0
    rw [putL, hk]
    exact put_any b n S L ep it w h h0.1 h0.2 hL
  · have hk : okE ep = false := decide_eq_false h0
    rw [putL, hk]
    refine (put_no (some ⟨b, 0, none⟩) ep it w (.inr (by omega))).mono ?_
    rintro e w' ⟨he, rfl⟩
    exact ⟨he, S, h, fun _ h => .inl h, Kept.refl _ _⟩
theorem ref_put_all (r : Nat) (S : Nat → Prop) (L : List Ent) (ep it : Int) (w : World) (h : Ref w r S L) (hL : L.length ≤ 100000) :
    Calls Try.prog 24 #[.pointer (some ⟨r, 0, none⟩), .int .i64 ep, .int .i64 it] w fun e w' => e = .returned (.bool (okE ep)) ∧ ∃ S', Ref w' r S' (putL L ep it) ∧ (∀ i, S' i → S i ∨ w.heap.size ≤ i) ∧ Kept S w w' := by
  by_cases h0 : 0 ≤ ep ∧ ep ≤ 1099511627776
  · have hk : okE ep = true := decide_eq_true h0
    rw [putL, hk]
    exact ref_put_any r S L ep it w h h0.1 h0.2 hL
  · have hk : okE ep = false := decide_eq_false h0
    rw [putL, hk]
    refine (ref_put_no (some ⟨r, 0, none⟩) ep it w (by omega)).mono ?_
    rintro e w' ⟨he, rfl⟩
    exact ⟨he, S, h, fun _ h => .inl h, Kept.refl _ _⟩

/-- A ring and the reference's, with the same entries, apart. -/
def Held (w : World) (b r n : Nat) (S T : Nat → Prop) (L : List Ent) : Prop := Ring w b S n L ∧ Ref w r T L ∧ ∀ i, S i → ¬ T i
theorem Held.below {w w' : World} {b r n : Nat} {S T : Nat → Prop} {L : List Ent} (h : Held w b r n S T L) (k : Below w.heap.size w w') : Held w' b r n S T L := ⟨h.1.below k, h.2.1.below k, h.2.2⟩
/-- What do leaves. -/
def DoPost (w : World) (b r n : Nat) (S T : Nat → Prop) (L' : List Ent) (e : Ending) (w' : World) : Prop :=
  ∃ S' T', e = .returned (.bool true) ∧ Held w' b r n S' T' L' ∧ (∀ i, S' i → S i ∨ w.heap.size ≤ i) ∧ (∀ i, T' i → T i ∨ w.heap.size ≤ i) ∧ Kept (fun i => S i ∨ T i) w w'

set_option maxHeartbeats 1600000 in
theorem do_due (b r n : Nat) (S T : Nat → Prop) (L : List Ent) (ep it : Int) (w : World) (h : Held w b r n S T L) (hL : L.length ≤ 100000) :
    Calls Try.prog 11 #[.pointer (some ⟨b, 0, none⟩), .pointer (some ⟨r, 0, none⟩), .agg (opCells ⟨true, ep, it⟩)] w (DoPost w b r n S T (stay ep L)) := by
  have hB : Below w.heap.size w (w.alloc (.cells (opCells ⟨true, ep, it⟩) 31)) := (Below.refl _ _).alloc (Nat.le_refl _) _
  have h2 := h.below hB
  have hE : Blk (w.alloc (.cells (opCells ⟨true, ep, it⟩) 31)) w.heap.size 31 (opCells ⟨true, ep, it⟩) := Blk.new _ _ _
  have x0 : (w.alloc (.cells (opCells ⟨true, ep, it⟩) 31)).cell? ⟨w.heap.size, 0, none⟩ = some (.bool true) := hE.cell 0
  have hSl := h.1.lt
  have hTl := h.2.1.lt
  have HS : Hid (¬ S w.heap.size ∧ ¬ T w.heap.size) := Lib.hid ⟨fun e => by have := hSl _ e; omega, fun e => by have := hTl _ e; omega⟩
  have HSL := Lib.hid hSl
  have HTL := Lib.hid hTl
  have HB := Lib.hid hB
  have HE := Lib.hid hE
  have HH := Lib.hid h2
  clear h hB h2 hE hSl hTl
  go_enter Try.func11, Try.ntmps11
  go_wp2
  generalize w.alloc (.cells (opCells ⟨true, ep, it⟩) 31) = W at *
  generalize hn0 : w.heap.size = n0 at *
  refine wp_region_first (fun w' => Blk w' n0 31 (opCells ⟨true, ep, it⟩)) 9 3 [0, 1, 2, 4, 5, 6] (by kernel_rfl) (by kernel_rfl) HE.out ?_
  simp only [List.filterMap_cons, List.filterMap_nil, List.getElem?_toArray, List.getElem?_cons_zero, List.getElem?_cons_succ]
  show wpQuiet _ _ _ _ [_, _, _, _, _, _] _
  iterate 2 (go_big_quiet_step ((intros; rfl)))
  refine q_cell 3 _ _ (.int .i64 ep) rfl rfl rfl (fun w h => by simp [go_sem, h]) (fun w h => h.cell 1) ?_
  simp only [Act.put, List.setIfInBounds_toArray, List.set_cons_zero, List.set_cons_succ]
  iterate 2 (go_big_quiet_step ((intros; rfl)))
  refine q_cell 3 _ _ (.int .i64 ep) rfl rfl rfl (fun w h => by simp [go_sem, h]) (fun w h => h.cell 1) ?_
  simp only [Act.put, List.setIfInBounds_toArray, List.set_cons_zero, List.set_cons_succ]
  refine wpQuiet_nil ?_
  refine headF_one (i := 3) (by kernel_rfl) (by omega) ?_
  refine wpOp_at rfl rfl (wp_call_at rfl #[.pointer (some ⟨b, 0, none⟩), .int .i64 ep] (by kernel_rfl) Try.call20 ((due_all b n S L ep _ (HH.out.1.drew) hL).mono ?_))
  rintro e w1 ⟨v, S1, rfl, ho, hR, hs, hk⟩
  have HO := Lib.hid ho
  have HR1 := Lib.hid hR
  have HK1 : Hid (Kept S W w1) := Lib.hid (((Kept.refl _ W).drew).trans hk (fun _ _ h => h))
  have HS1 := Lib.hid hs
  have HE1 : Hid (Blk w1 n0 31 (opCells ⟨true, ep, it⟩)) := Lib.hid (HE.out.kept HK1.out HS.out.1)
  have HT1 : Hid (Ref w1 r T L) := Lib.hid (HH.out.2.1.kept HK1.out (fun i hi hs => HH.out.2.2 i hs hi))
  clear ho hR hs hk
  refine ⟨v, rfl, HE1.out, ?_⟩
  refine headF_one (i := 7) (by kernel_rfl) (by omega) ?_
  refine wpOp_at rfl rfl (wp_call_at rfl #[.pointer (some ⟨r, 0, none⟩), .int .i64 ep] (by kernel_rfl) Try.call23 ((ref_due r T L ep _ HT1.out hL).mono ?_))
  rintro e w2 ⟨v2, T2, rfl, ho2, hR2, hs2, hk2, hv2⟩
  have HTW : Hid (∀ i, T i → i < W.heap.size) := Lib.hid (fun i hi => HH.out.2.1.lt i hi)
  have HO2 : Hid (w2.ownsRow W.heap.size 3 1 v (goes ep L).length ((goes ep L).map (Value.int .i64))) := Lib.hid (owns_same HO.out fun i hi => hk2.block i (HO.out.lt i hi).2 (fun t => by have := HTW.out i t; have h3 : W.heap.size ≤ i := (HO.out.lt i hi).1; omega))
  obtain ⟨a1, c1, rfl, hl1, hc1, hc1', hi1⟩ := ints_of_owns (S := fun _ => False) HO2.out (fun _ _ h => h)
  obtain ⟨a2, c2, rfl, hl2, hc2, hc2', hi2⟩ := ints_of_owns (S := fun _ => False) ho2 (fun _ _ h => h)
  have HP2 : Hid (DoPost w b r n S T (stay ep L) (.returned (.bool true)) w2) := Lib.hid (by
    have e0 : W.heap.size ≤ w1.heap.size := HK1.out.size
    have hw : w.heap.size ≤ W.heap.size := HB.out.size
    refine ⟨S1, T2, rfl, ⟨HR1.out.kept hk2 (fun i hi ht => HH.out.2.2 i (HS1.out i hi) ht), hR2, fun i hi ht => ?_⟩, fun i hi => .inl (HS1.out i hi), fun i hi => ?_, ?_⟩
    · rcases hs2 i ht with h | h
      · exact HH.out.2.2 i (HS1.out i hi) h
      · have := HR1.out.lt i hi
        omega
    · rcases hs2 i hi with h | h
      · exact .inl h
      · exact .inr (by omega)
    · have k0 : Kept (fun i => S i ∨ T i) w W := Kept.of_below (by rw [hn0]; exact HB.out)
      exact (k0.trans (HK1.out.more (fun _ _ h => .inl h)) (fun _ _ h => h)).trans (hk2.more (T := fun i => S i ∨ T i) (fun _ _ h => .inr h)) (fun _ _ h => h))
  have HE2 : Hid (Blk w2 n0 31 (opCells ⟨true, ep, it⟩)) := Lib.hid (HE1.out.kept hk2 HS.out.2)
  have HI1 := Lib.hid hi1
  have HI2 := Lib.hid hi2
  have hgl : (goes ep L).length ≤ 9223372036854775807 := by have := goes_len ep L; omega
  clear ho2 hR2 hs2 hk2 hv2 hi1 hi2
  refine ⟨_, rfl, HE2.out, ?_⟩
  refine headF_one (i := 8) (by kernel_rfl) (by omega) ?_
  refine wpOp_at rfl rfl (wp_call_at rfl #[.slice a1 (goes ep L).length c1, .slice a2 (goes ep L).length c2] (by kernel_rfl) Try.call21 ((equal_same HI1.out HI2.out rfl hgl).mono ?_))
  rintro e w3 ⟨rfl, m, rfl⟩
  refine ⟨_, rfl, HE2.out, ?_⟩
  show Region.seqB _ _ _ _ _ = true ∧ _
  refine ⟨by kernel_rfl, ?_⟩
  simp only [Act.put, List.getElem_toArray, List.getElem_cons_zero, List.getElem_cons_succ, List.setIfInBounds_toArray, List.set_cons_zero, List.set_cons_succ, List.drop_succ_cons, List.drop_zero]
  go_wp2
  refine NoPanic.normal ?_
  go_wp2
  go_ret
  obtain ⟨S', T', _, hh, q1, q2, q3⟩ := HP2.out
  exact ⟨S', T', rfl, ⟨hh.1.drewN m, hh.2.1.drewN m, hh.2.2⟩, q1, q2, q3.drewN m⟩
set_option maxHeartbeats 1600000 in
theorem do_put (b r n : Nat) (S T : Nat → Prop) (L : List Ent) (ep it : Int) (w : World) (h : Held w b r n S T L) (hL : L.length ≤ 100000) :
    Calls Try.prog 11 #[.pointer (some ⟨b, 0, none⟩), .pointer (some ⟨r, 0, none⟩), .agg (opCells ⟨false, ep, it⟩)] w (DoPost w b r n S T (putL L ep it)) := by
  have hB : Below w.heap.size w (w.alloc (.cells (opCells ⟨false, ep, it⟩) 31)) := (Below.refl _ _).alloc (Nat.le_refl _) _
  have h2 := h.below hB
  have hE : Blk (w.alloc (.cells (opCells ⟨false, ep, it⟩) 31)) w.heap.size 31 (opCells ⟨false, ep, it⟩) := Blk.new _ _ _
  have x0 : (w.alloc (.cells (opCells ⟨false, ep, it⟩) 31)).cell? ⟨w.heap.size, 0, none⟩ = some (.bool false) := hE.cell 0
  have hSl := h.1.lt
  have hTl := h.2.1.lt
  have HS : Hid (¬ S w.heap.size ∧ ¬ T w.heap.size) := Lib.hid ⟨fun e => by have := hSl _ e; omega, fun e => by have := hTl _ e; omega⟩
  have HSL := Lib.hid hSl
  have HTL := Lib.hid hTl
  have HB := Lib.hid hB
  have HE := Lib.hid hE
  have HH := Lib.hid h2
  clear h hB h2 hE hSl hTl
  go_enter Try.func11, Try.ntmps11
  go_wp2
  generalize w.alloc (.cells (opCells ⟨false, ep, it⟩) 31) = W at *
  generalize hn0 : w.heap.size = n0 at *
  refine wp_region_first (fun w' => Blk w' n0 31 (opCells ⟨false, ep, it⟩)) 13 3 [0, 1, 2, 3, 4, 6, 7, 8, 9, 10] (by kernel_rfl) (by kernel_rfl) HE.out ?_
  simp only [List.filterMap_cons, List.filterMap_nil, List.getElem?_toArray, List.getElem?_cons_zero, List.getElem?_cons_succ]
  show wpQuiet _ _ _ _ [_, _, _, _, _, _, _, _, _, _] _
  iterate 2 (go_big_quiet_step ((intros; rfl)))
  refine q_cell 3 _ _ (.int .i64 ep) rfl rfl rfl (fun w h => by simp [go_sem, h]) (fun w h => h.cell 1) ?_
  simp only [Act.put, List.setIfInBounds_toArray, List.set_cons_zero, List.set_cons_succ]
  iterate 1 (go_big_quiet_step ((intros; rfl)))
  refine q_cell 3 _ _ (.int .i64 it) rfl rfl rfl (fun w h => by simp [go_sem, h]) (fun w h => h.cell 2) ?_
  simp only [Act.put, List.setIfInBounds_toArray, List.set_cons_zero, List.set_cons_succ]
  iterate 2 (go_big_quiet_step ((intros; rfl)))
  refine q_cell 3 _ _ (.int .i64 ep) rfl rfl rfl (fun w h => by simp [go_sem, h]) (fun w h => h.cell 1) ?_
  simp only [Act.put, List.setIfInBounds_toArray, List.set_cons_zero, List.set_cons_succ]
  iterate 1 (go_big_quiet_step ((intros; rfl)))
  refine q_cell 3 _ _ (.int .i64 it) rfl rfl rfl (fun w h => by simp [go_sem, h]) (fun w h => h.cell 2) ?_
  simp only [Act.put, List.setIfInBounds_toArray, List.set_cons_zero, List.set_cons_succ]
  refine wpQuiet_nil ?_
  refine headF_one (i := 5) (by kernel_rfl) (by omega) ?_
  refine wpOp_at rfl rfl (wp_call_at rfl #[.pointer (some ⟨b, 0, none⟩), .int .i64 ep, .int .i64 it] (by kernel_rfl) Try.call19 ((put_all b n S L ep it _ (HH.out.1.drew) hL).mono ?_))
  rintro e w1 ⟨rfl, S1, hR, hs, hk⟩
  have HR1 := Lib.hid hR
  have HK1 : Hid (Kept S W w1) := Lib.hid (((Kept.refl _ W).drew).trans hk (fun _ _ h => h))
  have HS1 : Hid (∀ i, S1 i → S i ∨ W.heap.size ≤ i) := Lib.hid hs
  have HE1 : Hid (Blk w1 n0 31 (opCells ⟨false, ep, it⟩)) := Lib.hid (HE.out.kept HK1.out HS.out.1)
  have HT1 : Hid (Ref w1 r T L) := Lib.hid (HH.out.2.1.kept HK1.out (fun i hi hs => HH.out.2.2 i hs hi))
  have HA1 : Hid (∀ i, S1 i → ¬ T i) := Lib.hid (fun i hi ht => by
    rcases hs i hi with h | h
    · exact HH.out.2.2 i h ht
    · have h2 := HH.out.2.1.lt i ht
      have h3 : W.heap.size ≤ i := h
      omega)
  clear hR hs hk
  refine ⟨_, rfl, HE1.out, ?_⟩
  refine headF_one (i := 11) (by kernel_rfl) (by omega) ?_
  refine wpOp_at rfl rfl (wp_call_at rfl #[.pointer (some ⟨r, 0, none⟩), .int .i64 ep, .int .i64 it] (by kernel_rfl) Try.call24 ((ref_put_all r T L ep it _ HT1.out hL).mono ?_))
  rintro e w2 ⟨rfl, T2, hR2, hs2, hk2⟩
  have HP2 : Hid (DoPost w b r n S T (putL L ep it) (.returned (.bool true)) w2) := Lib.hid (by
    have e0 : W.heap.size ≤ w1.heap.size := HK1.out.size
    have hw : n0 ≤ W.heap.size := by rw [← hn0]; exact HB.out.size
    refine ⟨S1, T2, rfl, ⟨HR1.out.kept hk2 HA1.out, hR2, fun i hi ht => ?_⟩, fun i hi => ?_, fun i hi => ?_, ?_⟩
    · rcases hs2 i ht with h | h
      · exact HA1.out i hi h
      · have := HR1.out.lt i hi
        omega
    · rcases HS1.out i hi with h | h
      · exact .inl h
      · exact .inr (by omega)
    · rcases hs2 i hi with h | h
      · exact .inl h
      · exact .inr (by omega)
    · have k0 : Kept (fun i => S i ∨ T i) w W := Kept.of_below (by rw [hn0]; exact HB.out)
      exact (k0.trans (HK1.out.more (fun _ _ h => .inl h)) (fun _ _ h => h)).trans (hk2.more (T := fun i => S i ∨ T i) (fun _ _ h => .inr h)) (fun _ _ h => h))
  have HE2 : Hid (Blk w2 n0 31 (opCells ⟨false, ep, it⟩)) := Lib.hid (HE1.out.kept hk2 HS.out.2)
  clear hR2 hs2 hk2
  refine ⟨_, rfl, HE2.out, ?_⟩
  simp only [Act.put, List.getElem_toArray, List.getElem_cons_zero, List.getElem_cons_succ, List.setIfInBounds_toArray, List.set_cons_zero, List.set_cons_succ]
  refine headF_takes (fun w' => Blk w' n0 31 (opCells ⟨false, ep, it⟩)) (m := 1) (f := 0) [12] (fun _ h => h) (by kernel_rfl) HE2.out ?_
  simp only [List.filterMap_cons, List.filterMap_nil, List.getElem?_toArray, List.getElem?_cons_zero, List.getElem?_cons_succ]
  show wpQuiet _ _ _ _ [_] _
  generalize okE ep = ok
  iterate 1 (go_big_quiet_step ((intros; rfl)))
  refine wpQuiet_nil ?_
  show Region.seqB _ _ _ _ _ = true ∧ _
  refine ⟨by kernel_rfl, ?_⟩
  simp only [Act.put, List.getElem_toArray, List.getElem_cons_zero, List.getElem_cons_succ, List.setIfInBounds_toArray, List.set_cons_zero, List.set_cons_succ, List.drop_succ_cons, List.drop_zero]
  go_wp2
  refine NoPanic.normal ?_
  go_wp2
  go_ret
  obtain ⟨S', T', _, hh, q1, q2, q3⟩ := HP2.out
  exact ⟨S', T', by simp, hh, q1, q2, q3⟩
theorem do_any (b r n : Nat) (S T : Nat → Prop) (L : List Ent) (o : OpV) (w : World) (h : Held w b r n S T L) (hL : L.length ≤ 100000) :
    Calls Try.prog 11 #[.pointer (some ⟨b, 0, none⟩), .pointer (some ⟨r, 0, none⟩), .agg (opCells o)] w (DoPost w b r n S T (stepL L o)) := by
  obtain ⟨due, ep, it⟩ := o
  cases due with
  | true => exact do_due b r n S T L ep it w h hL
  | false => exact do_put b r n S T L ep it w h hL
end Go.Proofs.Ytinndmglacfofaa
