/- New: an empty log. -/
import Derived.Test.YthnhpmeacboljaaAddL
namespace Go.Proofs.Ythnhpmeacboljaa
open Go Go.RowKit Go.Deep
set_option linter.unusedVariables false
set_option linter.unusedSimpArgs false
set_option maxRecDepth 100000

def idxZ : Array Value := #[.map none, .slice none 0 0, .map none, .map none, .map none]
def idxN (h : Nat) : Array Value := #[.map (some (h + 1)), .slice none 0 0, .map (some (h + 2)), .map (some (h + 3)), .map (some (h + 4))]
theorem infoIx : (Try.prog.info? 76).map (·.size) = some 5 := by kernel_rfl
set_option maxHeartbeats 1600000 in
theorem newIndex_any (w : World) : Calls Try.prog 35 #[] w fun e w' => e = .returned (.agg (idxN w.heap.size)) ∧ Below w.heap.size w w' ∧ w'.heap.size = w.heap.size + 5 ∧ ∀ k, 1 ≤ k → k ≤ 4 → MapF w' (w.heap.size + k) (fun _ => none) := by
  have hmm := @run_makeMap Try.prog
  go_enter Try.func35, Try.ntmps35
  go_wp2_with (fail)
  obtain ⟨w1, hw1⟩ : ∃ w1, w.alloc (.cells #[.map (some (w.heap.size + 1)), .slice none 0 0, .map (some (w.heap.size + 1 + 1)), .map (some (w.heap.size + 1 + 1 + 1)), .map (some (w.heap.size + 1 + 1 + 1 + 1))] 76) = w1 := ⟨_, rfl⟩
  have hB : Blk w1 w.heap.size 76 (idxN w.heap.size) := by rw [← hw1]; exact Blk.new w _ _
  have hs : w1.heap.size = w.heap.size + 1 := by rw [← hw1]; simp
  have hb1 : Below w.heap.size w w1 := by rw [← hw1]; exact (Below.refl _ _).alloc (Nat.le_refl _) _
  rw [hw1]
  clear hw1
  refine bodyPost_ret (v := .agg (idxN w.heap.size)) (results_cell_row (fn := Try.f35) rfl _ _ w.heap.size 76 (idxN w.heap.size) (0, 0) _ rfl ((((hB.alloc _).alloc _).alloc _).alloc _) Try.underlying76 rfl infoIx) rfl ⟨rfl, ?_, by simp [hs], fun k h1 h4 => ?_⟩
  · exact (((hb1.alloc (by omega) _).alloc (by simp; omega) _).alloc (by simp; omega) _).alloc (by simp; omega) _
  · obtain rfl | rfl | rfl | rfl : k = 1 ∨ k = 2 ∨ k = 3 ∨ k = 4 := by omega
    · have := mapF_made w1
      rw [hs] at this
      exact ((this.alloc _).alloc _).alloc _
    · have := mapF_made (w1.alloc (.map #[] 0))
      rw [show (w1.alloc (.map #[] 0)).heap.size = w.heap.size + 2 by simp [hs]] at this
      exact (this.alloc _).alloc _
    · have := mapF_made ((w1.alloc (.map #[] 0)).alloc (.map #[] 0))
      rw [show ((w1.alloc (.map #[] 0)).alloc (.map #[] 0)).heap.size = w.heap.size + 3 by simp [hs]] at this
      exact this.alloc _
    · have := mapF_made (((w1.alloc (.map #[] 0)).alloc (.map #[] 0)).alloc (.map #[] 0))
      rw [show (((w1.alloc (.map #[] 0)).alloc (.map #[] 0)).alloc (.map #[] 0)).heap.size = w.heap.size + 4 by simp [hs]] at this
      exact this
/-- A fresh log. -/
def NewPost (w w' : World) (b : Nat) : Prop := ∃ T, LgAt w' b T st0 0 ∧ (∀ i, T i → w.heap.size ≤ i) ∧ Below w.heap.size w w'
set_option maxHeartbeats 1600000 in
theorem new_any (w : World) : Calls Try.prog 23 #[] w fun e w' => ∃ b, e = .returned (.pointer (some ⟨b, 0, none⟩)) ∧ NewPost w w' b := by
  have hmm := @run_makeMap Try.prog
  have HN := Lib.hid (newIndex_any w)
  go_enter Try.func23, Try.ntmps23
  go_wp2_with (fail)
  refine HN.out.mono ?_
  rintro e w1 ⟨rfl, hb, hs, hm⟩
  have H1 := Lib.hid (And.intro hb (And.intro hs hm))
  clear hb hs hm HN
  obtain ⟨h, hh⟩ : ∃ h, w.heap.size = h := ⟨_, rfl⟩
  have HH := Lib.hid hh
  rw [hh] at H1
  rw [show idxN w.heap.size = #[.map (some (h + 1)), .slice none 0 0, .map (some (h + 2)), .map (some (h + 3)), .map (some (h + 4))] by rw [hh]; rfl]
  clear hh
  go_wp2_with (fail)
  go_ret
  have e1 : w1.heap.size = h + 5 := H1.out.2.1
  have hA : MapF (w1.alloc (.map #[] 0)) w1.heap.size (fun _ => none) := mapF_made w1
  have hB : MapF ((w1.alloc (.map #[] 0)).alloc (.map #[] 0)) (w1.heap.size + 1) (fun _ => none) := by
    have := mapF_made (w1.alloc (.map #[] 0))
    rwa [show (w1.alloc (.map #[] 0)).heap.size = w1.heap.size + 1 by simp] at this
  have hM := H1.out.2.2
  have hBel : Below w.heap.size w w1 := by rw [HH.out]; exact H1.out.1
  have hw : w.heap.size = h := HH.out
  obtain ⟨v, hv⟩ : ∃ v : Lv, v = ⟨h + 1, none, 0, h + 2, h + 3, h + 4, h + 5, h + 6⟩ := ⟨_, rfl⟩
  refine ⟨_, rfl, fun i => h ≤ i ∧ i < h + 8, ⟨v, ?_⟩, fun i hi => by omega, ?_⟩
  · subst hv
    refine { blk := ?_, ex := ((((hM 1 (by omega) (by omega)).alloc _).alloc _).alloc _).congr (fun _ => rfl), od := ⟨rfl, .inl ⟨rfl, rfl⟩⟩, ag := ((((hM 2 (by omega) (by omega)).alloc _).alloc _).alloc _).congr (fun _ => rfl), sl := ((((hM 3 (by omega) (by omega)).alloc _).alloc _).alloc _).congr (fun _ => rfl), pd := ((((hM 4 (by omega) (by omega)).alloc _).alloc _).alloc _).congr (fun _ => rfl), py := ⟨fun _ => none, ?_, fun _ _ h => (by cases h), fun _ _ => rfl, fun _ _ _ _ _ _ h => (by cases h)⟩, an := ⟨fun _ => none, ?_, fun _ _ h => (by cases h), fun _ _ => rfl, fun _ _ _ _ _ _ h => (by cases h)⟩, nd := ?_, tb := ?_, tm := ?_, tw := fun j hj => (by cases hj), lt := fun i hi => ?_, wf := fun i hi => (by cases hi) }
    · have hn := Blk.new ((w1.alloc (.map #[] 0)).alloc (.map #[] 0)) 80 (cellsLg ⟨h + 1, none, 0, h + 2, h + 3, h + 4, h + 5, h + 6⟩ 0 0 0)
      rw [show ((w1.alloc (.map #[] 0)).alloc (.map #[] 0)).heap.size = w1.heap.size + 1 + 1 by simp] at hn
      rw [e1] at hn ⊢
      exact hn
    · have := (hA.alloc (.map #[] 0)).alloc (.cells #[.map (some (h + 1)), .slice none 0 0, .map (some (h + 2)), .map (some (h + 3)), .map (some (h + 4)), .int .i64 0, .int .i64 0, .map (some w1.heap.size), .map (some (w1.heap.size + 1))] 80)
      rw [e1] at this ⊢
      exact this
    · have := hB.alloc (.cells #[.map (some (h + 1)), .slice none 0 0, .map (some (h + 2)), .map (some (h + 3)), .map (some (h + 4)), .int .i64 0, .int .i64 0, .map (some w1.heap.size), .map (some (w1.heap.size + 1))] 80)
      rw [e1] at this ⊢
      exact this
    · simp only [List.nodup_cons, List.mem_cons, List.not_mem_nil, or_false, not_or, List.nodup_nil, and_true, not_false_eq_true]
      omega
    · omega
    · intro m hm
      simp only [List.mem_cons, List.not_mem_nil, or_false] at hm
      omega
    · simp only [World.alloc, Array.size_push]
      omega
  · exact ((hBel.alloc (by omega) _).alloc (by simp; omega) _).alloc (by simp; omega) _
end Go.Proofs.Ythnhpmeacboljaa
