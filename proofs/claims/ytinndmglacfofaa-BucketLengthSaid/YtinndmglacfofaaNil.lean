/- The nil ring's Next and All; Next and All, whatever ring. (mknil.py writes this text.) -/
import Derived.Test.YtinndmglacfofaaAll
namespace Go.Proofs.Ytinndmglacfofaa
open Go Go.RowKit Go.Deep Go.Shelf
set_option linter.unusedVariables false
set_option linter.unusedSimpArgs false

attribute [local go_sem] Oper.semAt_some

set_option maxRecDepth 100000 in
set_option maxHeartbeats 2000000 in
theorem next_nil_in (F : Fence) (n : Nat) (h13 : F.fn 13) (h25 : F.fn 25) (h30 : F.fn 30) (h33 : F.fn 33) (hro : F.round = none) (hn : 4 ≤ n) (w : World) :
    CallsIn F n Try.prog 13 #[.pointer none] w fun e W' => e = .returned (.tuple #[.int .i64 0, .bool false]) ∧ Below w.heap.size w W' := by
  have h1 : 1 ≤ n := by omega
  refine callsIn_of_wp_marks Try.func13 rfl h13 ?_ hro
  simp only [Try.ntmps13, List.size_toArray, List.length_cons, List.length_nil, Nat.reduceAdd, Nat.reduceSub, Array.replicate_succ, Array.replicate_zero, List.push_toArray, List.append_toArray, List.nil_append, List.cons_append]
  gi_wp2_with (gi_at_call 25; refine (each_nil F (n - 1) h25 h30 hro (by omega) _).mono ?_; rintro e w' ⟨rfl, rfl⟩)
  have bS := Boxed.new w 3 (.int .i64 0)
  have bF := Boxed.new (w.alloc (.cells #[.int .i64 0] 3)) 4 (.bool false)
  rw [World.size_alloc] at bF
  have bN := Boxed.new ((w.alloc (.cells #[.int .i64 0] 3)).alloc (.cells #[.bool false] 4)) 55 (.slice none 0 0)
  rw [World.size_alloc, World.size_alloc] at bN
  have hB0 : Below w.heap.size w (((w.alloc (.cells #[.int .i64 0] 3)).alloc (.cells #[.bool false] 4)).alloc (.cells #[.slice none 0 0] 55)) := (((Below.refl _ w).alloc (Nat.le_refl _) _).alloc (by simp) _).alloc (by simp; omega) _
  refine wpIn_rangeFunc_ownG hro h1 (gf := 33) (lb := #[.pointer (some ⟨w.heap.size + 2, 0, none⟩)]) rfl h33 (enters_of Try.func33 (by kernel_rfl) rfl)
    (encs := fun x : Value => #[x]) (Kp := Below w.heap.size) (S := fun ys => ys = []) (Sp := fun _ => False) (N := 0) (w0 := ((w.alloc (.cells #[.int .i64 0] 3)).alloc (.cells #[.bool false] 4)).alloc (.cells #[.slice none 0 0] 55))
    (fun l J Jx W hW _ _ hY h0 => (values1_nil_in F (n - 1) h33 hro l (w.heap.size + 2) J W ((hW.cell (p := ⟨w.heap.size + 2, 0, none⟩) (by simp)).trans bN.cell) h0).mono fun e W' ⟨he, hj⟩ => ⟨he, .inl ⟨_, rfl, hj⟩⟩)
    belowK_t (belowK_b (by simp; omega)) (Below.refl _ _) (fun _ => rfl)
    (fun pre W => (W.cell? ⟨w.heap.size, 0, none⟩ = some (.int .i64 0) ∧ W.cell? ⟨w.heap.size + 1, 0, none⟩ = some (.bool false)) ∧ Below w.heap.size w W)
    (fun _ _ _ => False)
    (OwnFrom.and (Own.from (fun s A B row hs hg hr => ⟨cell_kept hs.1 hg hr, cell_kept hs.2 hg hr⟩) _) (ownFrom_below (Nat.le_refl _) (by simp; omega)))
    (fun _ _ _ _ _ hs _ _ => hs)
    ⟨⟨((bS.alloc _).alloc _).cell, (bF.alloc _).cell⟩, hB0⟩
    (fun x => { tmps := #[.pointer none, undef, .int .i64 0, .bool false, .pointer (some ⟨w.heap.size, 0, none⟩), .pointer (some ⟨w.heap.size + 1, 0, none⟩), x, undef, undef, .pointer none, .func (.func 33) #[] #[.pointer (some ⟨w.heap.size + 2, 0, none⟩)], x, undef, undef, undef, undef, undef, undef, undef, undef, undef, undef, undef, undef, undef, undef, undef, undef, undef, undef, undef], defers := [] }) ?assign ?body ?done ?stop
  case assign =>
    intro l x W K hK
    gi_wp2
    exact hK
  case body =>
    rintro l pre x W _ hpl
    exact absurd hpl (Nat.not_lt_zero _)
  case done =>
    rintro D ys W hD rfl ⟨⟨hc, hc3⟩, hB⟩ hK
    gi_wp2
    refine wpIn_region_quiet_lit hro (by kernel_rfl) (by kernel_rfl) ?_
    repeat (quiet_step_in (fail))
    refine wpQuietIn_nil ?_
    intro _ hw'
    obtain ⟨nq, hw''⟩ := hw'
    subst hw''
    gi_wp2
    have hK' : (W.drewN nq).heap[D]? = some (.deferred (some [])) := hK
    refine ⟨by simp, .inl ⟨_, _, rfl, run_takeDeferred hK', ?_⟩⟩
    exact ⟨_, results_tmp2 rfl _ _ _, rfl, (below_drewN hB nq).trans (belowK_b (w := w) (Nat.le_refl _) _ D _ _ (by simp at hD; omega) hK' rfl rfl)⟩
  case stop =>
    rintro D c pre W _ _ h _
    exact h.elim

set_option maxRecDepth 100000 in
set_option maxHeartbeats 2000000 in
theorem all_nil_in (F : Fence) (n : Nat) (h18 : F.fn 18) (h25 : F.fn 25) (h30 : F.fn 30) (h33 : F.fn 33) (hro : F.round = none) (hFw : F = Fence.wide) (hn : 4 ≤ n) (w : World) :
    CallsIn F n Try.prog 18 #[.pointer none] w fun e W' => e = .returned (.slice none 0 0) ∧ Below w.heap.size w W' := by
  have h1 : 1 ≤ n := by omega
  have HS26 : Hid (∀ (n : Nat) (w : World), CallsIn F n Try.prog 26 #[.slice none 0 0, cmpF] w fun e w' => e = .returned (.tuple #[]) ∧ w = w') := Lib.hid (fun n w => by rw [hFw]; exact callsIn_wide.2 (sortstable_nil cmpF w))
  have f26 : F.fn 26 := by rw [hFw]; trivial
  clear hFw
  refine callsIn_of_wp_marks Try.func18 rfl h18 ?_ hro
  simp only [Try.ntmps18, List.size_toArray, List.length_cons, List.length_nil, Nat.reduceAdd, Nat.reduceSub, Array.replicate_succ, Array.replicate_zero, List.push_toArray, List.append_toArray, List.nil_append, List.cons_append]
  gi_wp2_with (gi_at_call 25; refine (each_nil F (n - 1) h25 h30 hro (by omega) _).mono ?_; rintro e w' ⟨rfl, rfl⟩)
  have bS := Boxed.new w 43 (.slice none 0 0)
  have bN := Boxed.new (w.alloc (.cells #[.slice none 0 0] 43)) 55 (.slice none 0 0)
  rw [World.size_alloc] at bN
  have hB0 : Below w.heap.size w ((w.alloc (.cells #[.slice none 0 0] 43)).alloc (.cells #[.slice none 0 0] 55)) := ((Below.refl _ w).alloc (Nat.le_refl _) _).alloc (by simp) _
  refine wpIn_rangeFunc_ownG hro h1 (gf := 33) (lb := #[.pointer (some ⟨w.heap.size + 1, 0, none⟩)]) rfl h33 (enters_of Try.func33 (by kernel_rfl) rfl)
    (encs := fun x : Value => #[x]) (Kp := Below w.heap.size) (S := fun ys => ys = []) (Sp := fun _ => False) (N := 0) (w0 := (w.alloc (.cells #[.slice none 0 0] 43)).alloc (.cells #[.slice none 0 0] 55))
    (fun l J Jx W hW _ _ hY h0 => (values1_nil_in F (n - 1) h33 hro l (w.heap.size + 1) J W ((hW.cell (p := ⟨w.heap.size + 1, 0, none⟩) (by simp)).trans bN.cell) h0).mono fun e W' ⟨he, hj⟩ => ⟨he, .inl ⟨_, rfl, hj⟩⟩)
    belowK_t (belowK_b (by simp; omega)) (Below.refl _ _) (fun _ => rfl)
    (fun pre W => (W.cell? ⟨w.heap.size, 0, none⟩ = some (.slice none 0 0) ∧ W.frozen? ⟨w.heap.size, 0, none⟩ = false) ∧ Below w.heap.size w W)
    (fun _ _ _ => False)
    (OwnFrom.and (Own.from (fun s A B row hs hg hr => ⟨cell_kept hs.1 hg hr, (frozen_kept hs.1 hg hr).trans hs.2⟩) _) (ownFrom_below (Nat.le_refl _) (by simp; omega)))
    (fun _ _ _ _ _ hs _ _ => hs)
    ⟨⟨(bS.alloc _).cell, (bS.alloc _).frozen⟩, hB0⟩
    (fun x => { tmps := #[.pointer none, undef, .slice none 0 0, .pointer (some ⟨w.heap.size, 0, none⟩), x, .pointer none, .func (.func 33) #[] #[.pointer (some ⟨w.heap.size + 1, 0, none⟩)], x, undef, undef, undef, undef, undef, undef], defers := [] }) ?assign ?body ?done ?stop
  case assign =>
    intro l x W K hK
    gi_wp2
    exact hK
  case body =>
    rintro l pre x W _ hpl
    exact absurd hpl (Nat.not_lt_zero _)
  case done =>
    rintro D ys W hD rfl ⟨⟨hc, _⟩, hB⟩ hK
    gi_wp2_with (gi_at_call 26; refine (HS26.out _ _).mono ?_; rintro e w2 ⟨rfl, rfl⟩)
    refine ⟨by simp, .inl ⟨_, _, rfl, run_takeDeferred hK, ?_⟩⟩
    exact ⟨_, results_tmp rfl _ _ _, rfl, hB.trans (belowK_b (w := w) (Nat.le_refl _) W D _ _ (by simp at hD; omega) hK rfl rfl)⟩
  case stop =>
    rintro D c pre W _ _ h _
    exact h.elim

theorem next_nil (w : World) : Calls Try.prog 13 #[.pointer none] w fun e w' => e = .returned (.tuple #[.int .i64 0, .bool false]) ∧ Below w.heap.size w w' :=
  callsIn_wide.1 (next_nil_in Fence.wide 4 trivial trivial trivial trivial rfl (Nat.le_refl _) w)
theorem all_nil (w : World) : Calls Try.prog 18 #[.pointer none] w fun e w' => e = .returned (.slice none 0 0) ∧ Below w.heap.size w w' :=
  callsIn_wide.1 (all_nil_in Fence.wide 4 trivial trivial trivial trivial rfl rfl (Nat.le_refl _) w)
theorem next_any (b n : Nat) (S : Nat → Prop) (L : List Ent) (w : World) (h : Ring w b S n L) (hL : L.length ≤ 100000) :
    Calls Try.prog 13 #[.pointer (some ⟨b, 0, none⟩)] w fun e w' => e = .returned (.tuple #[.int .i64 (bestF L).2, .bool (bestF L).1]) ∧ Below w.heap.size w w' := by
  obtain ⟨B, ss, hp, -⟩ := h
  rw [← best_unique (bestF_is (ents n L (upto n n))) (bestF_is L) (ents_all hp.pos L)]
  exact callsIn_wide.1 (next_in Fence.wide 4 trivial trivial trivial trivial rfl (Nat.le_refl _) b B n ss L w hp hL)
theorem all_any (b n : Nat) (S : Nat → Prop) (L : List Ent) (w : World) (h : Ring w b S n L) (hL : L.length ≤ 10000) :
    Calls Try.prog 18 #[.pointer (some ⟨b, 0, none⟩)] w (AllPost w L) := by
  obtain ⟨B, ss, hp, -⟩ := h
  exact callsIn_wide.1 (all_in Fence.wide 4 rfl (Nat.le_refl _) b B n ss L w hp hL)
end Go.Proofs.Ytinndmglacfofaa
