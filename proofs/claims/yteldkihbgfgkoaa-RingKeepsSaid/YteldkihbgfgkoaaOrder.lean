/- A ring and two lists of the law's own: what was pushed, what was popped. -/
import Derived.Test.YteldkihbgfgkoaaAlive
import Derived.Test.YteldkihbgfgkoaaInts
import Derived.Test.YteldkihbgfgkoaaAppend
namespace Go.Proofs.Yteldkihbgfgkoaa
open Go Go.RowKit
set_option linter.unusedVariables false

theorem cons_of_pos {L : List Int} (h : 0 < L.length) : ∃ y Q, L = y :: Q := by
  cases L with
  | nil => simp at h
  | cons y Q => exact ⟨y, Q, rfl⟩
theorem owns_kept {w w' : World} {S : Nat → Prop} {base n size : Nat} {e : TypeId} {v : Value} {xs : List Value} (h : w.ownsRow base e size v n xs) (k : Kept S w w') (hn : ∀ g, v.ownBlock = some g → ¬ S g) : w'.ownsRow base e size v n xs := by
  obtain ⟨h1, h2⟩ := h
  refine ⟨h1, ?_⟩
  rcases h2 with h2 | ⟨g, cap, cur, rfl, h3, h4, h5⟩
  · exact .inl h2
  · exact .inr ⟨g, cap, cur, rfl, h3, Blk.kept (w := w) h4 k (hn g rfl), h5⟩
theorem owns_ints {w : World} {S : Nat → Prop} {base n : Nat} {e : TypeId} {v : Value} {L : List Int} (h : w.ownsRow base e 1 v n (L.map (Value.int .i64))) (hn : ∀ g, v.ownBlock = some g → ¬ S g) :
    ∃ a cap, v = .slice a n cap ∧ IntsAt w S a L ∧ L.length = n ∧ n ≤ 9223372036854775807 := by
  obtain ⟨h1, h2⟩ := h
  have hl : L.length = n := by simpa using h1
  rcases h2 with ⟨rfl, rfl⟩ | ⟨g, cap, cur, rfl, h3, h4, h5, h6, h7, h8⟩
  · exact ⟨none, 0, rfl, fun h0 => by omega, hl, by omega⟩
  · refine ⟨_, cap, rfl, fun h0 => ⟨g, 0, rfl, hn g rfl, Blk.lt (show Blk w g e cur from h4), fun j hj => ?_⟩, hl, by unfold maxLen at h6; omega⟩
    rw [Nat.zero_add, Blk.cell (show Blk w g e cur from h4)]
    have hx : (L.map (Value.int .i64))[j]? = some (.int .i64 (L.getD j 0)) := by
      rw [List.getElem?_map, List.getD_eq_getElem?_getD, List.getElem?_eq_getElem hj]
      rfl
    rw [← h8] at hx
    rw [List.getElem?_take_of_lt (by omega)] at hx
    simpa using hx

/-- The ring in block b, of size n, holds Q; v8 owns P, v9 owns O; no block of one is another's. -/
def Trio (w : World) (B b : Nat) (g : Option Nat) (n : Nat) (Q : List Int) (v8 : Value) (P : List Int) (v9 : Value) (O : List Int) : Prop :=
  RingAt 61 3 1 w b g n Q.length (Q.map (Value.int .i64)) ∧ (∀ i, Foot b g i → B ≤ i) ∧ w.ownsRow B 3 1 v8 P.length (P.map (Value.int .i64)) ∧ w.ownsRow B 3 1 v9 O.length (O.map (Value.int .i64)) ∧
  (∀ k, v8.ownBlock = some k → ¬ Foot b g k ∧ v9.ownBlock ≠ some k) ∧ (∀ k, v9.ownBlock = some k → ¬ Foot b g k) ∧ B ≤ w.heap.size
section
variable {w w' : World} {B b n : Nat} {g g' : Option Nat} {Q Q' P O : List Int} {v8 v9 v : Value} {x : Int}
theorem Trio.ring (h : Trio w B b g n Q v8 P v9 O) (hr : RingAt 61 3 1 w' b g' n Q'.length (Q'.map (Value.int .i64))) (hm : Moved w g g') (hk : Kept (Foot b g) w w') : Trio w' B b g' n Q' v8 P v9 O := by
  obtain ⟨h1, h2, h3, h4, h5, h6, h7⟩ := h
  exact ⟨hr, foot_moved h2 hm h7, owns_kept h3 hk (fun k e => (h5 k e).1), owns_kept h4 hk h6, fun k e => ⟨foot_not (h5 k e).1 hm (h3.lt k e).2, (h5 k e).2⟩, fun k e => foot_not (h6 k e) hm (h4.lt k e).2, Nat.le_trans h7 hk.size⟩
theorem Trio.alloc (h : Trio w B b g n Q v8 P v9 O) (o : Obj) : Trio (w.alloc o) B b g n Q v8 P v9 O := by
  obtain ⟨h1, h2, h3, h4, h5, h6, h7⟩ := h
  exact ⟨h1.kept (S := fun _ => False) ((Kept.refl _ w).alloc o) (fun _ _ h => h), h2, h3.alloc o, h4.alloc o, h5, h6, by simp; omega⟩
theorem Trio.kept (h : Trio w B b g n Q v8 P v9 O) (hk : Kept (fun _ => False) w w') : Trio w' B b g n Q v8 P v9 O := by
  obtain ⟨h1, h2, h3, h4, h5, h6, h7⟩ := h
  exact ⟨h1.kept hk (fun _ _ h => h), h2, owns_kept h3 hk (fun _ _ h => h), owns_kept h4 hk (fun _ _ h => h), h5, h6, Nat.le_trans h7 hk.size⟩
theorem Trio.push8 (h : Trio w B b g n Q v8 P v9 O) (ho : w'.ownsRow B 3 1 v (P.length + 1) (P.map (Value.int .i64) ++ [.int .i64 x])) (hg : w.grownBy w' v8.ownBlock) (ha : v.ownBlock = v8.ownBlock ∨ v.ownBlock = some w.heap.size) :
    Trio w' B b g n Q v (P ++ [x]) v9 O := by
  obtain ⟨h1, h2, h3, h4, h5, h6, h7⟩ := h
  have hk : Kept (fun i => some i = v8.ownBlock) w w' := Kept.of_grown hg (fun i e => e)
  refine ⟨h1.kept hk (fun i hi e => (h5 i e.symm).1 hi), h2, by simpa using ho, owns_kept h4 hk (fun k e e2 => (h5 k e2.symm).2 e), fun k e => ?_, h6, Nat.le_trans h7 hg.size⟩
  rcases ha with ha | ha
  · exact h5 k (ha ▸ e)
  · rw [ha] at e
    injection e with e
    subst e
    exact ⟨fun hf => Nat.lt_irrefl _ (h1.lt _ hf), fun e => Nat.lt_irrefl _ (h4.lt _ e).2⟩
theorem Trio.push9 (h : Trio w B b g n Q v8 P v9 O) (ho : w'.ownsRow B 3 1 v (O.length + 1) (O.map (Value.int .i64) ++ [.int .i64 x])) (hg : w.grownBy w' v9.ownBlock) (ha : v.ownBlock = v9.ownBlock ∨ v.ownBlock = some w.heap.size) :
    Trio w' B b g n Q v8 P v (O ++ [x]) := by
  obtain ⟨h1, h2, h3, h4, h5, h6, h7⟩ := h
  have hk : Kept (fun i => some i = v9.ownBlock) w w' := Kept.of_grown hg (fun i e => e)
  refine ⟨h1.kept hk (fun i hi e => h6 i e.symm hi), h2, owns_kept h3 hk (fun k e e2 => (h5 k e).2 e2.symm), by simpa using ho, fun k e => ⟨(h5 k e).1, fun e2 => ?_⟩, fun k e => ?_, Nat.le_trans h7 hg.size⟩
  · rcases ha with ha | ha
    · exact (h5 k e).2 (ha ▸ e2)
    · rw [ha] at e2
      injection e2 with e2
      subst e2
      exact Nat.lt_irrefl _ (h3.lt _ e).2
  · rcases ha with ha | ha
    · exact h6 k (ha ▸ e)
    · rw [ha] at e
      injection e with e
      subst e
      exact fun hf => Nat.lt_irrefl _ (h1.lt _ hf)
/-- One element is pushed: there is room, or there is none. -/
theorem Trio.room (h : Trio w B b g n Q v8 P v9 O) (hr : Q.length < n) :
    Calls Try.prog 19 #[.pointer (some ⟨b, 0, none⟩), .slice (some ⟨w.heap.size, 0, none⟩) 1 1] (w.alloc (.cells #[.int .i64 x] 3)) fun e w' => e = .returned (.int .i64 1) ∧ (∃ g', Trio w' B b g' n (Q ++ [x]) v8 P v9 O) ∧ ∀ a, Below B a w → Below B a w' := by
  have h0 := h.alloc (.cells #[.int .i64 x] 3)
  have := ri_push_any b n Q.length 1 1 g (some ⟨w.heap.size, 0, none⟩) _ [.int .i64 x] _ h0.1 (src_blk (Blk.new w _ _) (fun hf => Nat.lt_irrefl _ (h.1.lt _ hf)) rfl (fun v hv => by simp at hv; subst hv; rfl)) (by omega) (by omega)
  rw [show min 1 (n - Q.length) = 1 by omega] at this
  refine this.mono fun e w' ⟨he, g', hr', hm, hk⟩ => ⟨he, ⟨g', h0.ring (by simpa using hr') hm hk⟩, fun a ha => Kept.below (ha.alloc h.2.2.2.2.2.2 _) hk h.2.1 h0.2.2.2.2.2.2⟩
theorem Trio.full (h : Trio w B b g n Q v8 P v9 O) (hr : ¬ Q.length < n) :
    Calls Try.prog 19 #[.pointer (some ⟨b, 0, none⟩), .slice (some ⟨w.heap.size, 0, none⟩) 1 1] (w.alloc (.cells #[.int .i64 x] 3)) fun e w' => e = .returned (.int .i64 0) ∧ (∃ g', Trio w' B b g' n Q v8 P v9 O) ∧ ∀ a, Below B a w → Below B a w' := by
  have h0 := h.alloc (.cells #[.int .i64 x] 3)
  have hc := h.1.size_le
  have := ri_push_any b n Q.length 1 1 g (some ⟨w.heap.size, 0, none⟩) _ [.int .i64 x] _ h0.1 (src_blk (Blk.new w _ _) (fun hf => Nat.lt_irrefl _ (h.1.lt _ hf)) rfl (fun v hv => by simp at hv; subst hv; rfl)) (by omega) (by omega)
  rw [show min 1 (n - Q.length) = 0 by omega] at this
  refine this.mono fun e w' ⟨he, g', hr', hm, hk⟩ => ⟨he, ⟨g', h0.ring (by simpa using hr') hm hk⟩, fun a ha => Kept.below (ha.alloc h.2.2.2.2.2.2 _) hk h.2.1 h0.2.2.2.2.2.2⟩
theorem Trio.pop (h : Trio w B b g n (x :: Q) v8 P v9 O) :
    Calls Try.prog 20 #[.pointer (some ⟨b, 0, none⟩)] w fun e w' => e = .returned (.tuple #[.int .i64 x, .bool true]) ∧ Trio w' B b g n Q v8 P v9 O ∧ ∀ a, Below B a w → Below B a w' :=
  (ri_pop_at b n Q.length g (Q.map (Value.int .i64)) (.int .i64 x) w h.1).mono fun e w' ⟨he, hr', hk⟩ => ⟨he, h.ring hr' (fun i e => .inl e) hk, fun a ha => Kept.below ha hk h.2.1 h.2.2.2.2.2.2⟩
theorem Trio.empty (h : Trio w B b g n [] v8 P v9 O) :
    Calls Try.prog 20 #[.pointer (some ⟨b, 0, none⟩)] w fun e w' => e = .returned (.tuple #[.int .i64 0, .bool false]) ∧ w = w' := ri_pop_empty b w h.1.cells.2
end
end Go.Proofs.Yteldkihbgfgkoaa
