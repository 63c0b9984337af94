/- The reference: Push. (Written by mkrefp.py.) -/
import Derived.Test.YtjleklhajmhekaaRef
namespace Go.Proofs.Ytjleklhajmhekaa
open Go Go.RowKit
set_option linter.unusedVariables false
set_option maxRecDepth 100000
set_option linter.unusedSimpArgs false

section
variable {w w' : World} {S T : Nat → Prop} {d n : Nat} {F V : List Int}
theorem rall_0 (d : Nat) (u : Value) (w : World) (h : w.cell? ⟨d, 0, none⟩ = some u) : Calls Try.prog 36 #[.pointer (some ⟨d, 0, none⟩), .int .i64 0] w fun e w' => e = .returned u ∧ w = w' := by
  go_enter Try.func36, Try.ntmps36
  go_wp2
  go_ret
  exact ⟨rfl, rfl⟩
theorem rall_1 (d : Nat) (u : Value) (w : World) (h : w.cell? ⟨d, 1, none⟩ = some u) : Calls Try.prog 36 #[.pointer (some ⟨d, 0, none⟩), .int .i64 1] w fun e w' => e = .returned u ∧ w = w' := by
  go_enter Try.func36, Try.ntmps36
  go_wp2
  go_ret
  exact ⟨rfl, rfl⟩
theorem rpush_no (c x : Int) (c0 : c ≠ 0) (c1 : c ≠ 1) (w : World) : Calls Try.prog 20 #[.pointer (some ⟨d, 0, none⟩), .int .i64 c, .int .i64 x] w fun e w' => e = .returned (.int .i64 11) ∧ w = w' := by
  have h0 : (c == 0) = false := by simpa using c0
  have h1 : (c == 1) = false := by simpa using c1
  have h2 : (c != 0) = true := by simpa using c0
  have h3 : (c != 1) = true := by simpa using c1
  clear c0 c1
  go_enter Try.func20, Try.ntmps20
  go_wp2
  go_ret
  exact ⟨rfl, rfl⟩
theorem rpush_full0 (h : RefAt w S d n F V) (x : Int) (hr : ¬ F.length < n) : Calls Try.prog 20 #[.pointer (some ⟨d, 0, none⟩), .int .i64 0, .int .i64 x] w fun e w' => e = .returned (.int .i64 6) ∧ ∃ m, w' = w.drewN m := by
  obtain ⟨a, ca, v, cv, h1, h2, h3, h4⟩ := h
  have x0 : w.cell? ⟨d, 0, none⟩ = some (.slice a F.length ca) := h1.cell 0
  have x2 : w.cell? ⟨d, 2, none⟩ = some (.int .i64 n) := h1.cell 2
  have hA := Lib.hid (fun q => rall_0 d _ (w.drewN q) x0)
  obtain ⟨k, hk⟩ : ∃ k, F.length = k := ⟨_, rfl⟩
  rw [hk] at x0 hA hr
  have hnk : (n : Int) ≤ (k : Int) := by omega
  clear h1 h2 h3 h4 hk hr x0
  go_enter Try.func20, Try.ntmps20
  go_wp2
  go_quiet ((go_at_call 36; exact quiet_left (hA.out _)))
  go_wp2
  go_ret
  exact ⟨rfl, _, rfl⟩
set_option maxHeartbeats 1600000 in
theorem rpush_room0 (h : RefAt w S d n F V) (x : Int) (hr : F.length < n) (hS : ∀ i, S i → i < w.heap.size) : Calls Try.prog 20 #[.pointer (some ⟨d, 0, none⟩), .int .i64 0, .int .i64 x] w fun e w' => e = .returned (.int .i64 0) ∧ RefAt w' S d n (F ++ [x]) V ∧ Kept (fun i => i = d) w w' := by
  obtain ⟨j0, hj0, hz0, hz1, hz2⟩ := int_app
  have HS := Lib.hid hS
  have h0 := h
  obtain ⟨a, ca, v, cv, h1, h2, h3, h4⟩ := h
  have x0 : w.cell? ⟨d, 0, none⟩ = some (.slice a F.length ca) := h1.cell 0
  have x2 : w.cell? ⟨d, 2, none⟩ = some (.int .i64 n) := h1.cell 2
  have hA := Lib.hid (fun q => rall_0 d _ (w.drewN q) x0)
  have HR := Lib.hid h0
  have H1 := Lib.hid h1
  have HL : Hid (IntsAt w (fun i => i = d ∨ S i) a F) := Lib.hid h2
  have H4 := Lib.hid h4
  obtain ⟨k, hk⟩ : ∃ k, F.length = k := ⟨_, rfl⟩
  have HK := Lib.hid hk
  rw [hk] at x0 hA hr
  have hnk : ¬ (n : Int) ≤ (k : Int) := by omega
  have hk4 : k ≤ 4096 := by omega
  clear h0 h1 h2 h3 h4 hk hr hS
  go_enter Try.func20, Try.ntmps20
  go_wp2
  go_quiet ((go_at_call 36; exact quiet_left (hA.out _)))
  obtain ⟨W, hW⟩ : ∃ W, W = w.drewN nq := ⟨_, rfl⟩
  rw [← hW]
  have KW : Hid (Kept (fun _ => False) w W ∧ W.heap.size = w.heap.size) := Lib.hid ⟨hW ▸ (Kept.refl _ w).drewN nq, hW ▸ rfl⟩
  have y0 : (W.alloc (.cells #[] 3)).cell? ⟨d, 0, none⟩ = some (.slice a k ca) := (KW.out.1.alloc _).cell (fun h => h) x0
  have HD : Hid (Blk W d 43 #[.slice a F.length ca, .slice v V.length cv, .int .i64 n]) := Lib.hid (H1.out.kept KW.out.1 (fun h => h))
  have HX : Hid (w.cell? ⟨d, 0, none⟩ = some (.slice a k ca)) := Lib.hid x0
  have HA2 : Hid (Src (W.alloc (.cells #[] 3)) (fun _ => False) a k 1 (F.map (Value.int .i64))) := Lib.hid (by
    have := (HL.out.kept (KW.out.1.alloc (.cells #[] 3)) (fun _ _ h => h.elim)).other (T := fun _ => False) (fun _ _ h => h.elim)
    have := this.src
    rwa [HK.out] at this)
  have HE : Hid (Blk (W.alloc (.cells #[] 3)) W.heap.size 3 #[]) := Lib.hid (Blk.new _ _ _)
  have BE : Hid (Below W.heap.size W (W.alloc (.cells #[] 3)) ∧ W.heap.size ≤ (W.alloc (.cells #[] 3)).heap.size) := Lib.hid ⟨(Below.refl _ _).alloc (Nat.le_refl _) _, by simp⟩
  have hd : d < W.heap.size := HD.out.lt
  clear hW hA x0 x2
  go_wp2_with (first
    | (at_builtin; refine wpList_append_src _ rfl (.tmp 25) (.tmp 29) 41 rfl W.heap.size 3 j0 _ 1 8 Try.underlying41 hj0 hz0 hz1 hz2 rfl Nat.one_pos (.slice (some ⟨W.heap.size, 0, none⟩) 0 0) 0 [] rfl (owns_empty HE.out (Nat.le_refl _)) a k ca (F.map (Value.int .i64)) rfl (by simp [HK.out]) (fun h0 => by obtain ⟨ad, e, _, hc⟩ := HA2.out.2.2 h0; exact ⟨ad, e, hc⟩) HA2.out.2.1 (by unfold maxLen; omega) (by omega) BE.out.2 ?_; intro v2 w2 ho2 hg2 hv2; have HP : Hid (w2.ownsRow W.heap.size 3 1 v2 k (F.map (Value.int .i64)) ∧ Below W.heap.size W w2) := Lib.hid ⟨by simpa using ho2, BE.out.1.grown hg2 BE.out.2 (fun q hq => by simp [Value.ownBlock] at hq; omega)⟩; have HN : Hid ((w2.alloc (.cells #[.int .i64 x] 3)).ownsRow W.heap.size 3 1 v2 k (F.map (Value.int .i64)) ∧ Below W.heap.size W (w2.alloc (.cells #[.int .i64 x] 3)) ∧ Src (w2.alloc (.cells #[.int .i64 x] 3)) (fun _ => False) (some ⟨w2.heap.size, 0, none⟩) 1 1 [.int .i64 x]) := Lib.hid ⟨HP.out.1.alloc _, HP.out.2.alloc HP.out.2.size _, src_one w2 x _ (fun _ h => h.elim)⟩; clear ho2 hg2 hv2)
    | (at_builtin; refine wpList_append_src _ rfl (.tmp 30) (.tmp 32) 41 rfl W.heap.size 3 j0 _ 1 8 Try.underlying41 hj0 hz0 hz1 hz2 rfl Nat.one_pos v2 k (F.map (Value.int .i64)) rfl HN.out.1 (some ⟨w2.heap.size, 0, none⟩) 1 1 [.int .i64 x] rfl rfl (fun h0 => by obtain ⟨ad, e, _, hc⟩ := HN.out.2.2.2.2 h0; exact ⟨ad, e, hc⟩) HN.out.2.2.2.1 (by unfold maxLen; omega) (by omega) HN.out.2.1.size ?_; intro v4 w4 ho4 hg4 hv4; have HQ : Hid (w4.ownsRow W.heap.size 3 1 v4 (k + 1) ((F ++ [x]).map (Value.int .i64)) ∧ Below W.heap.size W w4) := Lib.hid ⟨by simpa using ho4, HN.out.2.1.grown hg4 HN.out.2.1.size (fun q hq => (HN.out.1.lt q hq).1)⟩; have D4 := Lib.hid (HD.out.below HQ.out.2 hd); have z0 : w4.cell? ⟨d, 0, none⟩ = some (.slice a k ca) := (HQ.out.2.cell (p := ⟨d, 0, none⟩) hd).trans (KW.out.1.cell (fun h => h) HX.out); have z1 : w4.frozen? ⟨d, 0, none⟩ = false := D4.out.frozen 0; obtain ⟨a4, c4, rfl, hl4, hc4, hm4, hi4⟩ := ints_of_owns (S := fun i => i < W.heap.size) HQ.out.1 (fun i hi => by have := (HQ.out.1.lt i hi).1; omega); have H4i := Lib.hid (And.intro hi4 (And.intro hc4 hm4)); clear ho4 hg4 hv4 hl4 hc4 hm4 hi4))
  go_ret
  have h4 := H4.out
  have hm := H4i.out.2.2
  have hc4 := H4i.out.2.1
  unfold maxLen at hm
  have k4 : Kept (fun _ => False) w w4 := KW.out.1.trans (Kept.of_below HQ.out.2) (fun _ _ h => h)
  have k5 : ∀ u, Kept (fun i => i = d) w (w4.setCell ⟨d, 0, none⟩ u) := fun u => (k4.more (fun _ _ h => h.elim)).trans (kept_set _ _ _ _) (fun _ _ h => h)
  have hl : (F ++ [x]).length = k + 1 := by simp [HK.out]
  have hnew : IntsAt (w4.setCell ⟨d, 0, none⟩ (.slice a4 (k + 1) c4)) (fun i => i = d ∨ S i) a4 (F ++ [x]) := (H4i.out.1.kept (T := fun i => i = d) (kept_set _ _ _ _) (fun i _ e => by have : i = d := e; omega)).other (fun i hi h => by
    rcases h with h | h
    · have : i = d := h
      omega
    · have := HS.out i h; have := KW.out.2; omega)
  obtain ⟨_, _, _, _, _, g2, g3, _⟩ := HR.out
  have hb := D4.out.set_ 0 (.slice a4 (k + 1) c4)
  obtain ⟨a', ca', v', cv', q1, q2, q3, q4⟩ := HR.out
  have q0 := q1
  unfold Blk at q0
  have h1 := H1.out
  unfold Blk at h1
  rw [h1] at q0
  injection q0 with q0
  injection q0 with q0 _
  simp only [Array.mk.injEq, List.cons.injEq, Value.slice.injEq, and_true, true_and] at q0
  refine ⟨rfl, ⟨a4, c4, v, cv, by rw [hl]; exact hb, hnew, by obtain ⟨_, rfl, rfl⟩ := q0; exact q3.kept (k5 _) (fun i _ e => .inl e), by rw [hl]; omega, by omega, by rw [hl]; omega, by omega, by omega, by omega, by omega⟩, k5 _⟩
theorem rpush_full1 (h : RefAt w S d n F V) (x : Int) (hr : ¬ V.length < n) : Calls Try.prog 20 #[.pointer (some ⟨d, 0, none⟩), .int .i64 1, .int .i64 x] w fun e w' => e = .returned (.int .i64 6) ∧ ∃ m, w' = w.drewN m := by
  obtain ⟨a, ca, v, cv, h1, h2, h3, h4⟩ := h
  have x0 : w.cell? ⟨d, 1, none⟩ = some (.slice v V.length cv) := h1.cell 1
  have x2 : w.cell? ⟨d, 2, none⟩ = some (.int .i64 n) := h1.cell 2
  have hA := Lib.hid (fun q => rall_1 d _ (w.drewN q) x0)
  obtain ⟨k, hk⟩ : ∃ k, V.length = k := ⟨_, rfl⟩
  rw [hk] at x0 hA hr
  have hnk : (n : Int) ≤ (k : Int) := by omega
  clear h1 h2 h3 h4 hk hr x0
  go_enter Try.func20, Try.ntmps20
  go_wp2
  go_quiet ((go_at_call 36; exact quiet_left (hA.out _)))
  go_wp2
  go_ret
  exact ⟨rfl, _, rfl⟩
set_option maxHeartbeats 1600000 in
theorem rpush_room1 (h : RefAt w S d n F V) (x : Int) (hr : V.length < n) (hS : ∀ i, S i → i < w.heap.size) : Calls Try.prog 20 #[.pointer (some ⟨d, 0, none⟩), .int .i64 1, .int .i64 x] w fun e w' => e = .returned (.int .i64 0) ∧ RefAt w' S d n F (V ++ [x]) ∧ Kept (fun i => i = d) w w' := by
  obtain ⟨j0, hj0, hz0, hz1, hz2⟩ := int_app
  have HS := Lib.hid hS
  have h0 := h
  obtain ⟨a, ca, v, cv, h1, h2, h3, h4⟩ := h
  have x0 : w.cell? ⟨d, 1, none⟩ = some (.slice v V.length cv) := h1.cell 1
  have x2 : w.cell? ⟨d, 2, none⟩ = some (.int .i64 n) := h1.cell 2
  have hA := Lib.hid (fun q => rall_1 d _ (w.drewN q) x0)
  have HR := Lib.hid h0
  have H1 := Lib.hid h1
  have HL : Hid (IntsAt w (fun i => i = d ∨ S i) v V) := Lib.hid h3
  have H4 := Lib.hid h4
  obtain ⟨k, hk⟩ : ∃ k, V.length = k := ⟨_, rfl⟩
  have HK := Lib.hid hk
  rw [hk] at x0 hA hr
  have hnk : ¬ (n : Int) ≤ (k : Int) := by omega
  have hk4 : k ≤ 4096 := by omega
  clear h0 h1 h2 h3 h4 hk hr hS
  go_enter Try.func20, Try.ntmps20
  go_wp2
  go_quiet ((go_at_call 36; exact quiet_left (hA.out _)))
  obtain ⟨W, hW⟩ : ∃ W, W = w.drewN nq := ⟨_, rfl⟩
  rw [← hW]
  have KW : Hid (Kept (fun _ => False) w W ∧ W.heap.size = w.heap.size) := Lib.hid ⟨hW ▸ (Kept.refl _ w).drewN nq, hW ▸ rfl⟩
  have y0 : (W.alloc (.cells #[] 3)).cell? ⟨d, 1, none⟩ = some (.slice v k cv) := (KW.out.1.alloc _).cell (fun h => h) x0
  have HD : Hid (Blk W d 43 #[.slice a F.length ca, .slice v V.length cv, .int .i64 n]) := Lib.hid (H1.out.kept KW.out.1 (fun h => h))
  have HX : Hid (w.cell? ⟨d, 1, none⟩ = some (.slice v k cv)) := Lib.hid x0
  have HA2 : Hid (Src (W.alloc (.cells #[] 3)) (fun _ => False) v k 1 (V.map (Value.int .i64))) := Lib.hid (by
    have := (HL.out.kept (KW.out.1.alloc (.cells #[] 3)) (fun _ _ h => h.elim)).other (T := fun _ => False) (fun _ _ h => h.elim)
    have := this.src
    rwa [HK.out] at this)
  have HE : Hid (Blk (W.alloc (.cells #[] 3)) W.heap.size 3 #[]) := Lib.hid (Blk.new _ _ _)
  have BE : Hid (Below W.heap.size W (W.alloc (.cells #[] 3)) ∧ W.heap.size ≤ (W.alloc (.cells #[] 3)).heap.size) := Lib.hid ⟨(Below.refl _ _).alloc (Nat.le_refl _) _, by simp⟩
  have hd : d < W.heap.size := HD.out.lt
  clear hW hA x0 x2
  go_wp2_with (first
    | (at_builtin; refine wpList_append_src _ rfl (.tmp 37) (.tmp 41) 41 rfl W.heap.size 3 j0 _ 1 8 Try.underlying41 hj0 hz0 hz1 hz2 rfl Nat.one_pos (.slice (some ⟨W.heap.size, 0, none⟩) 0 0) 0 [] rfl (owns_empty HE.out (Nat.le_refl _)) v k cv (V.map (Value.int .i64)) rfl (by simp [HK.out]) (fun h0 => by obtain ⟨ad, e, _, hc⟩ := HA2.out.2.2 h0; exact ⟨ad, e, hc⟩) HA2.out.2.1 (by unfold maxLen; omega) (by omega) BE.out.2 ?_; intro v2 w2 ho2 hg2 hv2; have HP : Hid (w2.ownsRow W.heap.size 3 1 v2 k (V.map (Value.int .i64)) ∧ Below W.heap.size W w2) := Lib.hid ⟨by simpa using ho2, BE.out.1.grown hg2 BE.out.2 (fun q hq => by simp [Value.ownBlock] at hq; omega)⟩; have HN : Hid ((w2.alloc (.cells #[.int .i64 x] 3)).ownsRow W.heap.size 3 1 v2 k (V.map (Value.int .i64)) ∧ Below W.heap.size W (w2.alloc (.cells #[.int .i64 x] 3)) ∧ Src (w2.alloc (.cells #[.int .i64 x] 3)) (fun _ => False) (some ⟨w2.heap.size, 0, none⟩) 1 1 [.int .i64 x]) := Lib.hid ⟨HP.out.1.alloc _, HP.out.2.alloc HP.out.2.size _, src_one w2 x _ (fun _ h => h.elim)⟩; clear ho2 hg2 hv2)
    | (at_builtin; refine wpList_append_src _ rfl (.tmp 42) (.tmp 44) 41 rfl W.heap.size 3 j0 _ 1 8 Try.underlying41 hj0 hz0 hz1 hz2 rfl Nat.one_pos v2 k (V.map (Value.int .i64)) rfl HN.out.1 (some ⟨w2.heap.size, 0, none⟩) 1 1 [.int .i64 x] rfl rfl (fun h0 => by obtain ⟨ad, e, _, hc⟩ := HN.out.2.2.2.2 h0; exact ⟨ad, e, hc⟩) HN.out.2.2.2.1 (by unfold maxLen; omega) (by omega) HN.out.2.1.size ?_; intro v4 w4 ho4 hg4 hv4; have HQ : Hid (w4.ownsRow W.heap.size 3 1 v4 (k + 1) ((V ++ [x]).map (Value.int .i64)) ∧ Below W.heap.size W w4) := Lib.hid ⟨by simpa using ho4, HN.out.2.1.grown hg4 HN.out.2.1.size (fun q hq => (HN.out.1.lt q hq).1)⟩; have D4 := Lib.hid (HD.out.below HQ.out.2 hd); have z0 : w4.cell? ⟨d, 1, none⟩ = some (.slice v k cv) := (HQ.out.2.cell (p := ⟨d, 1, none⟩) hd).trans (KW.out.1.cell (fun h => h) HX.out); have z1 : w4.frozen? ⟨d, 1, none⟩ = false := D4.out.frozen 1; obtain ⟨a4, c4, rfl, hl4, hc4, hm4, hi4⟩ := ints_of_owns (S := fun i => i < W.heap.size) HQ.out.1 (fun i hi => by have := (HQ.out.1.lt i hi).1; omega); have H4i := Lib.hid (And.intro hi4 (And.intro hc4 hm4)); clear ho4 hg4 hv4 hl4 hc4 hm4 hi4))
  go_ret
  have h4 := H4.out
  have hm := H4i.out.2.2
  have hc4 := H4i.out.2.1
  unfold maxLen at hm
  have k4 : Kept (fun _ => False) w w4 := KW.out.1.trans (Kept.of_below HQ.out.2) (fun _ _ h => h)
  have k5 : ∀ u, Kept (fun i => i = d) w (w4.setCell ⟨d, 1, none⟩ u) := fun u => (k4.more (fun _ _ h => h.elim)).trans (kept_set _ _ _ _) (fun _ _ h => h)
  have hl : (V ++ [x]).length = k + 1 := by simp [HK.out]
  have hnew : IntsAt (w4.setCell ⟨d, 1, none⟩ (.slice a4 (k + 1) c4)) (fun i => i = d ∨ S i) a4 (V ++ [x]) := (H4i.out.1.kept (T := fun i => i = d) (kept_set _ _ _ _) (fun i _ e => by have : i = d := e; omega)).other (fun i hi h => by
    rcases h with h | h
    · have : i = d := h
      omega
    · have := HS.out i h; have := KW.out.2; omega)
  obtain ⟨_, _, _, _, _, g2, g3, _⟩ := HR.out
  have hb := D4.out.set_ 1 (.slice a4 (k + 1) c4)
  obtain ⟨a', ca', v', cv', q1, q2, q3, q4⟩ := HR.out
  have q0 := q1
  unfold Blk at q0
  have h1 := H1.out
  unfold Blk at h1
  rw [h1] at q0
  injection q0 with q0
  injection q0 with q0 _
  simp only [Array.mk.injEq, List.cons.injEq, Value.slice.injEq, and_true, true_and] at q0
  refine ⟨rfl, ⟨a, ca, a4, c4, by rw [hl]; exact hb, by obtain ⟨⟨rfl, rfl⟩, _⟩ := q0; exact q2.kept (k5 _) (fun i _ e => .inl e), hnew, by omega, by omega, by omega, by rw [hl]; omega, by omega, by rw [hl]; omega, by omega⟩, k5 _⟩
theorem rpush_any (c x : Int) (h : RefAt w S d n F V) (hS : ∀ i, S i → i < w.heap.size) : Calls Try.prog 20 #[.pointer (some ⟨d, 0, none⟩), .int .i64 c, .int .i64 x] w fun e w' => e = .returned (.int .i64 (errP n F V c)) ∧ RefAt w' S d n (pushF n F c x) (pushV n V c x) ∧ Kept (fun i => i = d) w w' := by
  by_cases c0 : c = 0
  · subst c0
    by_cases hr : F.length < n
    · refine (rpush_room0 h x hr hS).mono ?_
      rintro e w' ⟨he, h1, h2⟩
      exact ⟨by rw [he]; simp [errP, hr], by simpa [pushF, pushV, hr] using h1, h2⟩
    · refine (rpush_full0 h x hr).mono ?_
      rintro e w' ⟨he, m, rfl⟩
      exact ⟨by rw [he]; simp [errP, hr], by simpa [pushF, pushV, hr] using h.drewN m, (Kept.refl _ _).drewN m⟩
  · by_cases c1 : c = 1
    · subst c1
      by_cases hr : V.length < n
      · refine (rpush_room1 h x hr hS).mono ?_
        rintro e w' ⟨he, h1, h2⟩
        exact ⟨by rw [he]; simp [errP, hr], by simpa [pushF, pushV, hr] using h1, h2⟩
      · refine (rpush_full1 h x hr).mono ?_
        rintro e w' ⟨he, m, rfl⟩
        exact ⟨by rw [he]; simp [errP, hr], by simpa [pushF, pushV, hr] using h.drewN m, (Kept.refl _ _).drewN m⟩
    · refine (rpush_no c x c0 c1 w).mono ?_
      rintro e w' ⟨he, rfl⟩
      exact ⟨by rw [he]; simp [errP, c0, c1], by simpa [pushF, pushV, c0, c1] using h, Kept.refl _ _⟩
end
end Go.Proofs.Ytjleklhajmhekaa
