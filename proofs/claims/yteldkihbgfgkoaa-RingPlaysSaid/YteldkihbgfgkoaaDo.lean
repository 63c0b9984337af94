/- do: an operation on a ring and on the reference's. -/
import Derived.Test.YteldkihbgfgkoaaRefPush
import Derived.Test.YteldkihbgfgkoaaAlive
import Derived.Test.YteldkihbgfgkoaaFirst
namespace Go.Proofs.Yteldkihbgfgkoaa
open Go Go.RowKit
set_option linter.unusedVariables false

theorem refAt_moved {w w' : World} {b d size : Nat} {g g' : Option Nat} {L : List Int} (h : RefAt w (Foot b g) d size L) (hk : Kept (Foot b g) w w') (hm : Moved w g g') (hd : ¬ Foot b g d) (hlt : ∀ i, Foot b g i → i < w.heap.size) : RefAt w' (Foot b g') d size L := by
  have h1 := h.other (T := fun i => Foot b g i ∨ w.heap.size ≤ i) (fun i hi h => h.elim id (fun h => by omega))
  refine (h1.kept hk hd (fun i _ h => .inl h)).other (fun i hi h => ?_)
  rcases h with h | h
  · exact .inl (.inl h)
  · rcases hm i h.symm with h | h
    · exact .inl (.inr h.symm)
    · exact .inr h
/-- A ring and the reference's, both of size 'size', that hold L. -/
def Both (w : World) (B b d size : Nat) (g : Option Nat) (L : List Int) : Prop :=
  RingAt 61 3 1 w b g size L.length (L.map (Value.int .i64)) ∧ RefAt w (Foot b g) d size L ∧ (∀ i, Foot b g i → B ≤ i) ∧ ¬ Foot b g d ∧ B ≤ d ∧ d < w.heap.size
section
variable {w w' : World} {B b d size : Nat} {g g' : Option Nat} {L : List Int}
theorem Both.kept (h : Both w B b d size g L) (hk : Kept (fun _ => False) w w') : Both w' B b d size g L := by
  obtain ⟨h1, h2, h3, h4, h5, h6⟩ := h
  exact ⟨h1.kept hk (fun _ _ h => h), h2.kept hk id (fun _ _ h => h.elim), h3, h4, h5, Nat.lt_of_lt_of_le h6 hk.size⟩
theorem Both.size_le (h : Both w B b d size g L) : L.length ≤ size ∧ size ≤ 1048576 := ⟨h.1.size_le.1, h.1.size_le.2.2⟩
theorem Both.Ble (h : Both w B b d size g L) : B ≤ w.heap.size := by have := h.2.2.2.2; omega

set_option maxRecDepth 100000 in
set_option maxHeartbeats 1000000 in
theorem do_push (al : Option Addr) (ll cl : Nat) (ls : List Int) (h : Both w B b d size g L) (hl : IntsAt w (fun i => B ≤ i) al ls) (hll : ls.length = ll) (h50 : ll ≤ 50) (hc : ll ≤ cl) (hcl : cl ≤ 9223372036854775807) :
    Calls Try.prog 12 #[.pointer (some ⟨b, 0, none⟩), .pointer (some ⟨d, 0, none⟩), .agg #[.int .i64 0, .slice al ll cl]] w fun e w' => e = .returned (.bool true) ∧ (∃ g' L', Both w' B b d size g' L') ∧ ∀ a, Below B a w → Below B a w' := by
  obtain ⟨m, hm⟩ : ∃ m, min ll (size - L.length) = m := ⟨_, rfl⟩
  have h0 : Both (w.alloc (.cells #[.int .i64 0, .slice al ll cl] 32)) B b d size g L := h.kept ((Kept.refl _ _).alloc _)
  have hl0 : IntsAt (w.alloc (.cells #[.int .i64 0, .slice al ll cl] 32)) (fun i => B ≤ i) al ls := hl.kept (T := fun _ => False) ((Kept.refl _ _).alloc _) (fun _ _ h => h.elim)
  have hO : Blk (w.alloc (.cells #[.int .i64 0, .slice al ll cl] 32)) w.heap.size 32 #[.int .i64 0, .slice al ll cl] := Blk.new _ _ _
  have hOF : ¬ Foot b g w.heap.size := fun hf => Nat.lt_irrefl _ (h.1.lt _ hf)
  have hOd : w.heap.size ≠ d := by have := h.2.2.2.2.2; omega
  have hbl : ∀ a, Below B a w → Below B a (w.alloc (.cells #[.int .i64 0, .slice al ll cl] 32)) := fun a ha => ha.alloc h.Ble _
  have HBL := Lib.hid hbl
  generalize hW : w.alloc (.cells #[.int .i64 0, .slice al ll cl] 32) = W at *
  have HW := Lib.hid hW
  have H0 := Lib.hid h0
  have HL0 := Lib.hid hl0
  have HO := Lib.hid hO
  have HLL := Lib.hid hll
  have HM := Lib.hid hm
  clear hW h0 hl0 hO hbl h hl hll hm
  have hpush : Calls Try.prog 19 #[.pointer (some ⟨b, 0, none⟩), .slice al ll cl] W.drew fun e w' => e = .returned (.int .i64 m) ∧ ∃ g', RingAt 61 3 1 w' b g' size (L ++ ls.take m).length ((L ++ ls.take m).map (Value.int .i64)) ∧ Moved W g g' ∧ Kept (Foot b g) W w' := by
    have hs := (HL0.out.src.sub (T := Foot b g) (fun i hi => H0.out.2.2.1 i hi))
    rw [HLL.out] at hs
    have := ri_push_any b size L.length ll cl g al _ _ W.drew H0.out.1 hs hc hcl
    rw [HM.out, Nat.mul_one, ← List.map_take, ← List.map_append] at this
    have e : L.length + m = (L ++ ls.take m).length := by rw [List.length_append, List.length_take, HLL.out]; have := HM.out; omega
    rw [e] at this
    exact this.mono fun e w' ⟨he, g', k1, k2, k3⟩ => ⟨he, g', k1, k2, ((Kept.refl _ W).drew).trans k3 (fun _ _ h => h)⟩
  have HPUSH := Lib.hid hpush
  clear hpush
  go_enter Try.func12, Try.ntmps12
  go_wp2
  rw [HW.out]
  refine wp_region_first (fun w' => w'.cell? ⟨w.heap.size, 1, none⟩ = some (.slice al ll cl)) 8 2 [0, 1, 2, 4, 5, 6] (by kernel_rfl) (by kernel_rfl) (HO.out.cell 1) ?_
  simp only [List.filterMap_cons, List.filterMap_nil, List.getElem?_toArray, List.getElem?_cons_zero, List.getElem?_cons_succ]
  show wpQuiet _ _ _ _ [_, _, _, _, _, _] _
  iterate 2 (go_big_quiet_step ((intros; rfl)))
  refine q_cell 28 _ _ (.slice al ll cl) rfl rfl rfl (fun w h => by simp [go_sem, h]) (fun w h => h) ?_
  simp only [Act.put, List.setIfInBounds_toArray, List.set_cons_zero, List.set_cons_succ]
  iterate 2 (go_big_quiet_step ((intros; rfl)))
  refine q_cell 28 _ _ (.slice al ll cl) rfl rfl rfl (fun w h => by simp [go_sem, h]) (fun w h => h) ?_
  simp only [Act.put, List.setIfInBounds_toArray, List.set_cons_zero, List.set_cons_succ]
  refine wpQuiet_nil ?_
  refine headF_one (i := 3) (by kernel_rfl) (by omega) ?_
  refine wpOp_at rfl rfl (wp_call_at rfl #[.pointer (some ⟨b, 0, none⟩), .slice al ll cl] (by kernel_rfl) Try.call19 (HPUSH.out.mono ?_))
  rintro e w1 ⟨rfl, g1, r1, m1, k1⟩
  refine ⟨_, rfl, k1.cell hOF (HO.out.cell 1), ?_⟩
  have hd1 : ¬ Foot b g1 d := foot_not H0.out.2.2.2.1 m1 H0.out.2.2.2.2.2
  have ref1 := refAt_moved H0.out.2.1 k1 m1 H0.out.2.2.2.1 H0.out.1.lt
  have F1 := foot_moved H0.out.2.2.1 m1 H0.out.Ble
  have hl1 : IntsAt w1 (fun i => i = d ∨ B ≤ i) al ls := (HL0.out.kept k1 (fun i _ h => H0.out.2.2.1 i h)).other (fun i _ h => h.elim (fun h => by have := H0.out.2.2.2.2.1; omega) id)
  have hp2 := refpush_any (Foot b g1) (fun i => B ≤ i) d size cl al L ls w1 ref1 hl1 (by have := HLL.out; omega) H0.out.size_le.2 (fun i hi => r1.lt i hi)
  rw [HLL.out, HM.out] at hp2
  refine headF_one (i := 7) (by kernel_rfl) (by omega) ?_
  refine wpOp_at rfl rfl (wp_call_at rfl #[.pointer (some ⟨d, 0, none⟩), .slice al ll cl] (by kernel_rfl) Try.call28 (hp2.mono ?_))
  rintro e w2 ⟨rfl, ref2, k2⟩
  refine ⟨_, rfl, k2.cell hOd (k1.cell hOF (HO.out.cell 1)), ?_⟩
  have r2 := r1.kept k2 (fun i hi e => hd1 (e ▸ hi))
  have hend : (∃ g' L', Both w2 B b d size g' L') ∧ ∀ a, Below B a w → Below B a w2 := by
    refine ⟨⟨g1, _, r2, ref2, F1, hd1, H0.out.2.2.2.2.1, Nat.lt_of_lt_of_le H0.out.2.2.2.2.2 (Nat.le_trans k1.size k2.size)⟩, fun a ha => ?_⟩
    have hB1 := Kept.below (HBL.out a ha) k1 H0.out.2.2.1 H0.out.Ble
    exact Kept.below hB1 k2 (fun i e => e ▸ H0.out.2.2.2.2.1) (Nat.le_trans H0.out.Ble k1.size)
  have HE := Lib.hid hend
  clear hend r2 ref2 k2 hp2 hl1 F1 ref1 hd1 r1 m1 k1
  show Region.seqB _ _ _ _ _ = true ∧ _
  refine ⟨by kernel_rfl, ?_⟩
  simp only [Act.put, List.getElem_toArray, List.getElem_cons_zero, List.getElem_cons_succ, List.setIfInBounds_toArray, List.set_cons_zero, List.set_cons_succ, List.drop_succ_cons, List.drop_zero]
  go_wp2
  refine NoPanic.normal ?_
  go_wp2
  go_ret
  exact ⟨rfl, HE.out⟩

theorem do_popped (x : Int) (al : Option Addr) (ll cl : Nat) (h : Both w B b d size g (x :: L)) :
    Calls Try.prog 12 #[.pointer (some ⟨b, 0, none⟩), .pointer (some ⟨d, 0, none⟩), .agg #[.int .i64 1, .slice al ll cl]] w fun e w' => e = .returned (.bool true) ∧ (∃ g' L', Both w' B b d size g' L') ∧ ∀ a, Below B a w → Below B a w' := by
  have h0 := h.kept ((Kept.refl _ _).alloc (.cells #[.int .i64 1, .slice al ll cl] 32))
  have hB := h.Ble
  have H0 := Lib.hid h0
  clear h h0
  go_enter Try.func12, Try.ntmps12
  go_wp2_with fail
  refine (ri_pop_at b size L.length g (L.map (Value.int .i64)) (.int .i64 x) _ H0.out.1).mono ?_
  rintro e w1 ⟨rfl, r1, k1⟩
  have ref1 : RefAt w1 (Foot b g) d size (x :: L) := H0.out.2.1.kept k1 H0.out.2.2.2.1 (fun _ _ h => h)
  have R1 := Lib.hid r1
  have REF1 := Lib.hid ref1
  have K1 := Lib.hid k1
  clear r1 ref1 k1
  go_wp2_with fail
  refine (refpop_at (Foot b g) d size x L _ REF1.out).mono ?_
  rintro e w2 ⟨rfl, ref2, k2⟩
  have hend : (∃ g' L', Both w2 B b d size g' L') ∧ ∀ a, Below B a w → Below B a w2 := by
    refine ⟨⟨g, L, R1.out.kept k2 (fun i hi e => H0.out.2.2.2.1 (e ▸ hi)), ref2, H0.out.2.2.1, H0.out.2.2.2.1, H0.out.2.2.2.2.1, Nat.lt_of_lt_of_le H0.out.2.2.2.2.2 (Nat.le_trans K1.out.size k2.size)⟩, fun a ha => ?_⟩
    have hB1 := Kept.below (ha.alloc hB _) K1.out H0.out.2.2.1 H0.out.Ble
    exact Kept.below hB1 k2 (fun i e => e ▸ H0.out.2.2.2.2.1) (Nat.le_trans H0.out.Ble K1.out.size)
  have HE := Lib.hid hend
  clear hend ref2 k2
  go_wp2_with fail
  go_ret
  exact ⟨rfl, HE.out⟩
theorem do_empty (al : Option Addr) (ll cl : Nat) (h : Both w B b d size g []) :
    Calls Try.prog 12 #[.pointer (some ⟨b, 0, none⟩), .pointer (some ⟨d, 0, none⟩), .agg #[.int .i64 1, .slice al ll cl]] w fun e w' => e = .returned (.bool true) ∧ (∃ g' L', Both w' B b d size g' L') ∧ ∀ a, Below B a w → Below B a w' := by
  have h0 := h.kept ((Kept.refl _ _).alloc (.cells #[.int .i64 1, .slice al ll cl] 32))
  have hB := h.Ble
  have H0 := Lib.hid h0
  clear h h0
  go_enter Try.func12, Try.ntmps12
  go_wp2_with fail
  refine (ri_pop_empty b _ H0.out.1.cells.2).mono ?_
  rintro e w1 ⟨rfl, rfl⟩
  go_wp2_with fail
  refine (refpop_empty (Foot b g) d size _ H0.out.2.1).mono ?_
  rintro e w2 ⟨rfl, rfl⟩
  go_wp2_with fail
  go_ret
  exact ⟨rfl, ⟨g, [], H0.out⟩, fun a ha => ha.alloc hB _⟩
theorem do_clear (k : Int) (al : Option Addr) (ll cl : Nat) (h : Both w B b d size g L) (h0 : (k == 0) = false) (h1 : (k == 1) = false) :
    Calls Try.prog 12 #[.pointer (some ⟨b, 0, none⟩), .pointer (some ⟨d, 0, none⟩), .agg #[.int .i64 k, .slice al ll cl]] w fun e w' => e = .returned (.bool true) ∧ (∃ g' L', Both w' B b d size g' L') ∧ ∀ a, Below B a w → Below B a w' := by
  have hh := h.kept ((Kept.refl _ _).alloc (.cells #[.int .i64 k, .slice al ll cl] 32))
  have hB := h.Ble
  have H0 := Lib.hid hh
  clear h hh
  go_enter Try.func12, Try.ntmps12
  go_wp2_with fail
  refine (ri_clear_any b g size L.length _ _ H0.out.1).mono ?_
  rintro e w1 ⟨rfl, r1, k1⟩
  obtain ⟨a', cap, hb, _, _, _, _⟩ := H0.out.2.1.kept k1 H0.out.2.2.2.1 (fun _ _ h => h)
  have c0 : w1.cell? ⟨d, 0, none⟩ = some (.slice a' L.length cap) := hb.cell 0
  have f0 := hb.frozen 0
  have HB := Lib.hid hb
  have R1 := Lib.hid r1
  have K1 := Lib.hid k1
  clear hb r1 k1
  have k2 : Kept (fun i => i = d) w1 (w1.setCell ⟨d, 0, none⟩ (.slice none 0 0)) := Kept.setCell (S := fun i => i = d) (Kept.refl _ _) (.inl rfl) _
  have hend : (∃ g' L', Both (w1.setCell ⟨d, 0, none⟩ (.slice none 0 0)) B b d size g' L') ∧ ∀ a, Below B a w → Below B a (w1.setCell ⟨d, 0, none⟩ (.slice none 0 0)) := by
    refine ⟨⟨none, [], R1.out.kept k2 (fun i hi e => H0.out.2.2.2.1 (by rcases hi with hi | hi; exact .inl (e ▸ hi); cases hi)), ⟨none, 0, HB.out.set_ 0 _, IntsAt.nil _ _ _, by simp, by omega, by simp⟩, foot_none (H0.out.2.2.1 b (.inl rfl)), ?_, H0.out.2.2.2.2.1, Nat.lt_of_lt_of_le H0.out.2.2.2.2.2 (Nat.le_trans K1.out.size k2.size)⟩, fun a ha => ?_⟩
    · rintro (hi | hi)
      · exact H0.out.2.2.2.1 (.inl hi)
      · cases hi
    · have hB1 := Kept.below (ha.alloc hB _) K1.out H0.out.2.2.1 H0.out.Ble
      exact Kept.below hB1 k2 (fun i e => e ▸ H0.out.2.2.2.2.1) (Nat.le_trans H0.out.Ble K1.out.size)
  have HE := Lib.hid hend
  clear hend k2
  go_wp2_with fail
  go_ret
  exact ⟨rfl, HE.out⟩
/-- do, whatever the operation. -/
theorem do_any (k : Int) (al : Option Addr) (ll cl : Nat) (z : List Int) (h : Both w B b d size g L) (hr : IsRow .i64 w al ll cl z) (hl : IntsAt w (fun i => B ≤ i) al (z.take ll)) (h50 : ll ≤ 50) :
    Calls Try.prog 12 #[.pointer (some ⟨b, 0, none⟩), .pointer (some ⟨d, 0, none⟩), .agg #[.int .i64 k, .slice al ll cl]] w fun e w' => e = .returned (.bool true) ∧ (∃ g' L', Both w' B b d size g' L') ∧ ∀ a, Below B a w → Below B a w' := by
  by_cases h0 : k = 0
  · subst h0
    obtain ⟨_, h1, h2, h3⟩ := IntsAt.of_row (S := fun _ => False) hr (fun _ _ h => h)
    exact do_push al ll cl (z.take ll) h hl h1 h50 h2 h3
  · by_cases h1 : k = 1
    · subst h1
      cases L with
      | nil => exact do_empty al ll cl h
      | cons x L => exact do_popped x al ll cl h
    · exact do_clear k al ll cl h (by simpa using h0) (by simpa using h1)
end
end Go.Proofs.Yteldkihbgfgkoaa
