/- Lanes: New, has, queue, next, Len, Free, All. -/
import Derived.Test.YtkeclanbebiogaaBase2
import Derived.LoopN
import Derived.WalkMore
namespace Go.Proofs.Ytkeclanbebiogaa
open Go Go.RowKit
set_option linter.unusedVariables false
set_option maxRecDepth 100000
set_option linter.unusedSimpArgs false

theorem has_nil (c : Int) (w : World) : Calls Try.prog 51 #[.pointer none, .int .i64 c] w fun e w' => e = .returned (.bool false) ∧ w = w' := by
  go_enter Try.func51, Try.ntmps51
  go_wp2
  go_ret
  exact ⟨rfl, rfl⟩
theorem has_yes (b : Nat) (c : Int) (w : World) (h : c = 0 ∨ c = 1) : Calls Try.prog 51 #[.pointer (some ⟨b, 0, none⟩), .int .i64 c] w fun e w' => e = .returned (.bool true) ∧ w = w' := by
  rcases h with rfl | rfl
  · go_enter Try.func51, Try.ntmps51
    go_wp2
    go_ret
    exact ⟨rfl, rfl⟩
  · go_enter Try.func51, Try.ntmps51
    go_wp2
    go_ret
    exact ⟨rfl, rfl⟩
theorem has_no (b : Nat) (c : Int) (w : World) (h : c < 0 ∨ 2 ≤ c) : Calls Try.prog 51 #[.pointer (some ⟨b, 0, none⟩), .int .i64 c] w fun e w' => e = .returned (.bool false) ∧ w = w' := by
  rcases h with h | h
  · have h1 : ¬ 0 ≤ c := by omega
    go_enter Try.func51, Try.ntmps51
    go_wp2
    go_ret
    exact ⟨rfl, rfl⟩
  · have h1 : 0 ≤ c := by omega
    have h2 : ¬ c < 2 := by omega
    go_enter Try.func51, Try.ntmps51
    go_wp2
    go_ret
    exact ⟨rfl, rfl⟩
theorem queue_nil (c : Int) (w : World) : Calls Try.prog 43 #[.pointer none, .int .i64 c] w fun e w' => e = .returned (.pointer none) ∧ w = w' := by
  go_enter Try.func43, Try.ntmps43
  go_wp2_with fail
  refine (has_nil _ _).mono ?_
  rintro e w' ⟨rfl, rfl⟩
  go_wp2
  go_ret
  exact ⟨rfl, rfl⟩
theorem queue_no (b : Nat) (c : Int) (w : World) (h : c < 0 ∨ 2 ≤ c) : Calls Try.prog 43 #[.pointer (some ⟨b, 0, none⟩), .int .i64 c] w fun e w' => e = .returned (.pointer none) ∧ w = w' := by
  have H := Lib.hid h
  clear h
  go_enter Try.func43, Try.ntmps43
  go_wp2_with fail
  refine (has_no _ _ _ H.out).mono ?_
  rintro e w' ⟨rfl, rfl⟩
  go_wp2
  go_ret
  exact ⟨rfl, rfl⟩
theorem queue_zero (b f : Nat) (w : World) (h : w.cell? ⟨b, 0, none⟩ = some (.pointer (some ⟨f, 0, none⟩))) :
    Calls Try.prog 43 #[.pointer (some ⟨b, 0, none⟩), .int .i64 0] w fun e w' => e = .returned (.pointer (some ⟨f, 0, none⟩)) ∧ w = w' := by
  go_enter Try.func43, Try.ntmps43
  go_wp2_with fail
  refine (has_yes _ _ _ (.inl rfl)).mono ?_
  rintro e w' ⟨rfl, rfl⟩
  go_wp2
  go_ret
  exact ⟨rfl, rfl⟩
theorem queue_one (b v : Nat) (w : World) (h : w.cell? ⟨b, 1, none⟩ = some (.pointer (some ⟨v, 0, none⟩))) :
    Calls Try.prog 43 #[.pointer (some ⟨b, 0, none⟩), .int .i64 1] w fun e w' => e = .returned (.pointer (some ⟨v, 0, none⟩)) ∧ w = w' := by
  go_enter Try.func43, Try.ntmps43
  go_wp2_with fail
  refine (has_yes _ _ _ (.inr rfl)).mono ?_
  rintro e w' ⟨rfl, rfl⟩
  go_wp2
  go_ret
  exact ⟨rfl, rfl⟩

theorem new_none (s : Int) (w : World) (h : s < 1 ∨ 4096 < s) : Calls Try.prog 11 #[.int .i64 s] w fun e w' => e = .returned (.pointer none) ∧ w = w' := by
  rcases h with h | h
  · go_enter Try.func11, Try.ntmps11
    go_wp2
    go_ret
    exact ⟨rfl, rfl⟩
  · have h1 : ¬ s < 1 := by omega
    go_enter Try.func11, Try.ntmps11
    go_wp2
    go_ret
    exact ⟨rfl, rfl⟩
theorem new_some (n : Nat) (w : World) (h1 : 1 ≤ n) (h2 : n ≤ 4096) : Calls Try.prog 11 #[.int .i64 n] w fun e w' => e = .returned (.pointer (some ⟨w.heap.size, 0, none⟩)) ∧
    (∃ S, Ln w' w.heap.size S n [] [] ∧ ∀ i, S i → w.heap.size ≤ i) ∧ Below w.heap.size w w' := by
  have h0 : ¬ (n : Int) < 1 := by omega
  have h3 : ¬ (4096 : Int) < (n : Int) := by omega
  have H := Lib.hid (fun W => ri_new_some n W h1 (by omega))
  have HN := Lib.hid (show 1 ≤ n ∧ n ≤ 1048576 by omega)
  go_enter Try.func11, Try.ntmps11
  go_wp2_with fail
  have B0 : Hid (Blk (w.alloc (.cells #[.pointer none, .pointer none] 76)) w.heap.size 76 #[.pointer none, .pointer none]) := Lib.hid (Blk.new _ _ _)
  have K0 : Hid (Below w.heap.size w (w.alloc (.cells #[.pointer none, .pointer none] 76)) ∧ (w.alloc (.cells #[.pointer none, .pointer none] 76)).heap.size = w.heap.size + 1) := Lib.hid ⟨(Below.refl _ _).alloc (Nat.le_refl _) _, by simp⟩
  generalize w.alloc (.cells #[.pointer none, .pointer none] 76) = w1 at *
  obtain ⟨b, hb⟩ : ∃ b, w.heap.size = b := ⟨_, rfl⟩
  have HB := Lib.hid hb
  rw [hb] at B0 K0 ⊢
  clear hb
  refine wp_loop_rounds 3 ?_
  rw [rounds_succ]
  go_wp2_with fail
  refine (H.out _).mono ?_
  rintro e w2 ⟨rfl, hw2⟩
  have R2 : Hid (RingAt 104 3 1 w2 w1.heap.size none n 0 []) := by rw [← hw2]; exact Lib.hid (ringAt_new w1 _ _ 1 n HN.out.1 HN.out.2)
  have B2 : Hid (Blk w2 b 76 #[.pointer none, .pointer none]) := by rw [← hw2]; exact Lib.hid (B0.out.alloc _)
  have K2 : Hid (Kept (fun _ => False) w1 w2) := by rw [← hw2]; exact Lib.hid ((Kept.refl _ _).alloc _)
  have x1 := B2.out.frozen 0
  have x2 : w2.cell? ⟨b, 0, none⟩ = some (.pointer none) := B2.out.cell 0
  clear hw2
  go_wp2_with fail
  have B3 : Hid (Blk (w2.setCell ⟨b, 0, none⟩ (.pointer (some ⟨w1.heap.size, 0, none⟩))) b 76 #[.pointer (some ⟨w1.heap.size, 0, none⟩), .pointer none]) := Lib.hid (B2.out.set_ 0 _)
  obtain ⟨f, hf⟩ : ∃ f, w1.heap.size = f := ⟨_, rfl⟩
  have HF := Lib.hid hf
  rw [hf] at B3 R2 ⊢
  have hfb : f = b + 1 := by rw [← hf]; exact K0.out.2
  have R3 : Hid (RingAt 104 3 1 (w2.setCell ⟨b, 0, none⟩ (.pointer (some ⟨f, 0, none⟩))) f none n 0 []) := Lib.hid (R2.out.kept (kept_set _ _ _ _) (fun i hi => by
    rcases hi with rfl | hi
    · omega
    · cases hi))
  have K3 : Hid (Below b w (w2.setCell ⟨b, 0, none⟩ (.pointer (some ⟨f, 0, none⟩))) ∧ f < (w2.setCell ⟨b, 0, none⟩ (.pointer (some ⟨f, 0, none⟩))).heap.size) := Lib.hid ⟨(Kept.below K0.out.1 (S := fun i => i = b) ((K2.out.more (T := fun i => i = b) (fun _ _ h => h.elim)).trans (kept_set _ _ _ _) (fun _ _ h => h)) (fun i h => by omega) (by rw [K0.out.2]; omega)), R3.out.lt _ (.inl rfl)⟩
  have HFB := Lib.hid hfb
  clear B2 R2 K2 x1 x2 hf hfb B0 K0
  generalize w2.setCell ⟨b, 0, none⟩ (.pointer (some ⟨f, 0, none⟩)) = w3 at *
  rw [rounds_succ]
  go_wp2_with fail
  refine (H.out _).mono ?_
  rintro e w4 ⟨rfl, hw4⟩
  have R4 : Hid (RingAt 104 3 1 w4 w3.heap.size none n 0 []) := by rw [← hw4]; exact Lib.hid (ringAt_new w3 _ _ 1 n HN.out.1 HN.out.2)
  have Q4 : Hid (RingAt 104 3 1 w4 f none n 0 []) := by rw [← hw4]; exact Lib.hid (R3.out.kept (S := fun _ => False) ((Kept.refl _ _).alloc _) (fun _ _ h => h))
  have B4 : Hid (Blk w4 b 76 #[.pointer (some ⟨f, 0, none⟩), .pointer none]) := by rw [← hw4]; exact Lib.hid (B3.out.alloc _)
  have K4 : Hid (Below b w w4) := by rw [← hw4]; exact Lib.hid (K3.out.1.alloc (by have := K3.out.2; have := HFB.out; omega) _)
  have x1 := B4.out.frozen 1
  have x2 : w4.cell? ⟨b, 1, none⟩ = some (.pointer none) := B4.out.cell 1
  clear hw4
  go_wp2_with fail
  rw [rounds_succ]
  go_wp2_with fail
  go_ret
  obtain ⟨v, hv⟩ : ∃ v, w3.heap.size = v := ⟨_, rfl⟩
  have hvf : f < v := by rw [← hv]; exact K3.out.2
  have hfb := HFB.out
  rw [hv] at R4 ⊢
  have hn : ∀ x i, Foot x none i → i = x := fun x i h => by
    rcases h with rfl | h
    · rfl
    · cases h
  have hk : Kept (fun i => i = b) w4 (w4.setCell ⟨b, 1, none⟩ (.pointer (some ⟨v, 0, none⟩))) := kept_set _ _ _ _
  refine ⟨by rw [HB.out]; rfl, ⟨_, ⟨f, v, none, none, ⟨by rw [HB.out]; exact B4.out.set_ 1 _, Q4.out.kept hk (fun i hi => by rw [hn _ _ hi]; omega), R4.out.kept hk (fun i hi => by rw [hn _ _ hi]; omega), fun i h1 h2 => by have := hn _ _ h1; have := hn _ _ h2; omega, fun h => by have := hn _ _ h; have := HB.out; omega, fun h => by have := hn _ _ h; have := HB.out; omega⟩, fun i => Iff.rfl⟩, ?_⟩, ?_⟩
  · rintro i (rfl | h | h)
    · omega
    · have := hn _ _ h; have := HB.out; omega
    · have := hn _ _ h; have := HB.out; omega
  · rw [HB.out]
    exact Kept.below K4.out (kept_set _ _ _ _) (fun i h => by omega) (Nat.le_of_lt B4.out.lt)
theorem next_forced (b f nf : Nat) (w : World) (h0 : w.cell? ⟨b, 0, none⟩ = some (.pointer (some ⟨f, 0, none⟩))) (h2 : w.cell? ⟨f, 3, none⟩ = some (.int .i64 nf)) (hn : 0 < nf) :
    Calls Try.prog 45 #[.pointer (some ⟨b, 0, none⟩)] w fun e w' => e = .returned (.int .i64 0) ∧ ∃ m, w' = w.drewN m := by
  have HL := Lib.hid (fun m => ri_len_any f nf (w.drewN m) h2)
  go_enter Try.func45, Try.ntmps45
  go_wp2
  go_step3
  go_wp2
  go_step3
  go_wp2
  refine wp_loop_rounds 1 ?_
  rw [rounds_succ]
  go_wp2
  go_quiet (fail)
  go_wp2_with fail
  refine (HL.out _).mono ?_
  rintro e w' ⟨rfl, rfl⟩
  go_wp2
  try rw [Exit.noGoto_ret]
  go_ret
  exact ⟨rfl, _, rfl⟩
theorem next_second (b f v nv : Nat) (w : World) (h0 : w.cell? ⟨b, 0, none⟩ = some (.pointer (some ⟨f, 0, none⟩))) (h1 : w.cell? ⟨b, 1, none⟩ = some (.pointer (some ⟨v, 0, none⟩))) (h2 : w.cell? ⟨f, 3, none⟩ = some (.int .i64 0)) (h3 : w.cell? ⟨v, 3, none⟩ = some (.int .i64 nv)) (hn : 0 < nv) :
    Calls Try.prog 45 #[.pointer (some ⟨b, 0, none⟩)] w fun e w' => e = .returned (.int .i64 1) ∧ ∃ m, w' = w.drewN m := by
  have HL := Lib.hid (fun m => ri_len_any f 0 (w.drewN m) h2)
  have HV := Lib.hid (fun m => ri_len_any v nv (w.drewN m) h3)
  go_enter Try.func45, Try.ntmps45
  go_wp2
  go_step3
  go_wp2
  go_step3
  go_wp2
  refine wp_loop_rounds 2 ?_
  rw [rounds_succ]
  go_wp2
  go_quiet (fail)
  go_wp2_with fail
  refine (HL.out _).mono ?_
  rintro e w' ⟨rfl, rfl⟩
  go_wp2
  rw [rounds_succ]
  go_wp2
  go_quiet (fail)
  go_wp2_with fail
  refine (HV.out _).mono ?_
  rintro e w' ⟨rfl, rfl⟩
  go_wp2
  try rw [Exit.noGoto_ret]
  go_ret
  exact ⟨rfl, _, rfl⟩
theorem next_none (b f v : Nat) (w : World) (h0 : w.cell? ⟨b, 0, none⟩ = some (.pointer (some ⟨f, 0, none⟩))) (h1 : w.cell? ⟨b, 1, none⟩ = some (.pointer (some ⟨v, 0, none⟩))) (h2 : w.cell? ⟨f, 3, none⟩ = some (.int .i64 0)) (h3 : w.cell? ⟨v, 3, none⟩ = some (.int .i64 0)) :
    Calls Try.prog 45 #[.pointer (some ⟨b, 0, none⟩)] w fun e w' => e = .returned (.int .i64 0) ∧ ∃ m, w' = w.drewN m := by
  have HL := Lib.hid (fun m => ri_len_any f 0 (w.drewN m) h2)
  have HV := Lib.hid (fun m => ri_len_any v 0 (w.drewN m) h3)
  go_enter Try.func45, Try.ntmps45
  go_wp2
  go_step3
  go_wp2
  go_step3
  go_wp2
  refine wp_loop_rounds 3 ?_
  rw [rounds_succ]
  go_wp2
  go_quiet (fail)
  go_wp2_with fail
  refine (HL.out _).mono ?_
  rintro e w' ⟨rfl, rfl⟩
  go_wp2
  rw [rounds_succ]
  go_wp2
  go_quiet (fail)
  go_wp2_with fail
  refine (HV.out _).mono ?_
  rintro e w' ⟨rfl, rfl⟩
  go_wp2
  rw [rounds_succ]
  go_wp2
  try rw [Exit.noGoto_ret]
  go_ret
  exact ⟨rfl, _, rfl⟩

section
variable {w : World} {b n : Nat} {S : Nat → Prop} {F V : List Int}
theorem next_any (h : Ln w b S n F V) : Calls Try.prog 45 #[.pointer (some ⟨b, 0, none⟩)] w fun e w' => e = .returned (.int .i64 (hdC F V)) ∧ ∃ m, w' = w.drewN m := by
  obtain ⟨f, v, gf, gv, h1, _⟩ := h
  have x := h1.cells
  have y := h1.2.1.cells.2
  have z := h1.2.2.1.cells.2
  rcases F with _ | ⟨x0, F⟩
  · rcases V with _ | ⟨y0, V⟩
    · exact next_none b f v w x.1 x.2 y z
    · exact next_second b f v _ w x.1 x.2 y z (by simp)
  · exact next_forced b f _ w x.1 y (by simp)
theorem all_nil (c : Int) (w : World) : Calls Try.prog 19 #[.pointer none, .int .i64 c] w fun e w' => e = .returned (.slice none 0 0) ∧ w = w' := by
  go_enter Try.func19, Try.ntmps19
  go_wp2_with fail
  refine (queue_nil _ _).mono ?_
  rintro e w' ⟨rfl, rfl⟩
  go_wp2_with fail
  refine (ri_all_nil _).mono ?_
  rintro e w' ⟨rfl, rfl⟩
  go_wp2
  go_ret
  exact ⟨rfl, rfl⟩
/-- The queue of a class: none, or a ring that holds what the class holds. -/
theorem queue_any (c : Int) (h : Ln w b S n F V) : Calls Try.prog 43 #[.pointer (some ⟨b, 0, none⟩), .int .i64 c] w fun e w' => w = w' ∧
    ((e = .returned (.pointer none) ∧ c ≠ 0 ∧ c ≠ 1) ∨ ∃ r g, e = .returned (.pointer (some ⟨r, 0, none⟩)) ∧ (c = 0 ∨ c = 1) ∧ RingAt 104 3 1 w r g n (laneL F V c).length ((laneL F V c).map (Value.int .i64))) := by
  obtain ⟨f, v, gf, gv, h1, _⟩ := h
  by_cases c0 : c = 0
  · subst c0
    exact (queue_zero b f w h1.cells.1).mono fun e w' ⟨he, hw⟩ => ⟨hw, .inr ⟨f, gf, he, .inl rfl, h1.2.1⟩⟩
  · by_cases c1 : c = 1
    · subst c1
      exact (queue_one b v w h1.cells.2).mono fun e w' ⟨he, hw⟩ => ⟨hw, .inr ⟨v, gv, he, .inr rfl, h1.2.2.1⟩⟩
    · exact (queue_no b c w (by omega)).mono fun e w' ⟨he, hw⟩ => ⟨hw, .inl ⟨he, c0, c1⟩⟩
theorem laneL_none {c : Int} (h0 : c ≠ 0) (h1 : c ≠ 1) : laneL F V c = [] := by rw [laneL, if_neg h0, if_neg h1]
theorem freeN_none {c : Int} (h0 : c ≠ 0) (h1 : c ≠ 1) : freeN n F V c = 0 := by rw [freeN, if_neg h0, if_neg h1]
theorem freeN_some {c : Int} (h : c = 0 ∨ c = 1) : freeN n F V c = n - (laneL F V c).length := by
  rcases h with rfl | rfl <;> rfl
def ListPost (w : World) (L : List Int) (e : Ending) (w' : World) : Prop := ∃ v, e = .returned v ∧ w'.ownsRow w.heap.size 3 1 v L.length (L.map (Value.int .i64)) ∧ Below w.heap.size w w'
end
end Go.Proofs.Ytkeclanbebiogaa
