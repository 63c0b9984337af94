/- Lanes: Push, Head, Pop. -/
import Derived.Test.YtkeclanbebiogaaOps
namespace Go.Proofs.Ytkeclanbebiogaa
open Go Go.RowKit
set_option linter.unusedVariables false
set_option maxRecDepth 100000
set_option linter.unusedSimpArgs false

section
variable {w : World} {b n r f v : Nat} {S : Nat → Prop} {F V L : List Int} {g gf gv : Option Nat}
/-- One element into a ring: there is room, or there is none. -/
theorem ring_room (h : RingAt 104 3 1 w r g n L.length (L.map (Value.int .i64))) (x : Int) (hr : L.length < n) :
    Calls Try.prog 52 #[.pointer (some ⟨r, 0, none⟩), .slice (some ⟨w.heap.size, 0, none⟩) 1 1] (w.alloc (.cells #[.int .i64 x] 3)) fun e w' => e = .returned (.int .i64 1) ∧
      ∃ g', RingAt 104 3 1 w' r g' n (L ++ [x]).length ((L ++ [x]).map (Value.int .i64)) ∧ Moved w g g' ∧ Kept (Foot r g) w w' := by
  have h0 := h.kept (S := fun _ => False) ((Kept.refl _ w).alloc (.cells #[.int .i64 x] 3)) (fun _ _ h => h)
  have := ri_push_any r n L.length 1 1 g (some ⟨w.heap.size, 0, none⟩) _ [.int .i64 x] _ h0 (src_one w x _ h.lt) (by omega) (by omega)
  rw [show min 1 (n - L.length) = 1 by omega] at this
  refine this.mono ?_
  rintro e w' ⟨he, g', hr', hm, hk⟩
  refine ⟨he, g', by simpa using hr', fun i hi => (hm i hi).imp id (fun h => by simp at h; omega), ((Kept.refl (Foot r g) w).alloc _).trans hk (fun _ _ h => h)⟩
theorem ring_full (h : RingAt 104 3 1 w r g n L.length (L.map (Value.int .i64))) (x : Int) (hr : ¬ L.length < n) :
    Calls Try.prog 52 #[.pointer (some ⟨r, 0, none⟩), .slice (some ⟨w.heap.size, 0, none⟩) 1 1] (w.alloc (.cells #[.int .i64 x] 3)) fun e w' => e = .returned (.int .i64 0) ∧
      ∃ g', RingAt 104 3 1 w' r g' n L.length (L.map (Value.int .i64)) ∧ Moved w g g' ∧ Kept (Foot r g) w w' := by
  have h0 := h.kept (S := fun _ => False) ((Kept.refl _ w).alloc (.cells #[.int .i64 x] 3)) (fun _ _ h => h)
  have := ri_push_any r n L.length 1 1 g (some ⟨w.heap.size, 0, none⟩) _ [.int .i64 x] _ h0 (src_one w x _ h.lt) (by omega) (by omega)
  rw [show min 1 (n - L.length) = 0 by omega] at this
  refine this.mono ?_
  rintro e w' ⟨he, g', hr', hm, hk⟩
  refine ⟨he, g', by simpa using hr', fun i hi => (hm i hi).imp id (fun h => by simp at h; omega), ((Kept.refl (Foot r g) w).alloc _).trans hk (fun _ _ h => h)⟩
/-- What Push leaves. -/
def LnPost (w : World) (b : Nat) (S : Nat → Prop) (n : Nat) (F V : List Int) (w' : World) : Prop := ∃ S', Ln w' b S' n F V ∧ Goes S S' w w'
theorem push_nil (c x : Int) (w : World) : Calls Try.prog 27 #[.pointer none, .int .i64 c, .int .i64 x] w fun e w' => e = .returned (.int .i64 1) ∧ w = w' := by
  go_enter Try.func27, Try.ntmps27
  go_wp2
  go_ret
  exact ⟨rfl, rfl⟩
theorem push_no (c x : Int) (w : World) (h : c < 0 ∨ 2 ≤ c) : Calls Try.prog 27 #[.pointer (some ⟨b, 0, none⟩), .int .i64 c, .int .i64 x] w fun e w' => e = .returned (.int .i64 11) ∧ w = w' := by
  have H := Lib.hid h
  clear h
  go_enter Try.func27, Try.ntmps27
  go_wp2_with fail
  refine (has_no _ _ _ H.out).mono ?_
  rintro e w' ⟨rfl, rfl⟩
  go_wp2
  go_ret
  exact ⟨rfl, rfl⟩
/-- Push, once the ring of the class and what it answers are known. -/
theorem push_with (c x : Int) (k r : Nat) (w : World) (Q : World → Prop) (hh : c = 0 ∨ c = 1) (hq : Calls Try.prog 43 #[.pointer (some ⟨b, 0, none⟩), .int .i64 c] w fun e w' => e = .returned (.pointer (some ⟨r, 0, none⟩)) ∧ w = w')
    (hp : Calls Try.prog 52 #[.pointer (some ⟨r, 0, none⟩), .slice (some ⟨w.heap.size, 0, none⟩) 1 1] (w.alloc (.cells #[.int .i64 x] 3)) fun e w' => e = .returned (.int .i64 k) ∧ Q w') (hk : k = 0 ∨ k = 1) :
    Calls Try.prog 27 #[.pointer (some ⟨b, 0, none⟩), .int .i64 c, .int .i64 x] w fun e w' => e = .returned (.int .i64 (if k = 0 then 6 else 0)) ∧ Q w' := by
  have HH := Lib.hid hh
  have HQ := Lib.hid hq
  have HP := Lib.hid hp
  clear hh hq hp
  rcases hk with rfl | rfl
  · go_enter Try.func27, Try.ntmps27
    go_wp2_with fail
    refine (has_yes _ _ _ HH.out).mono ?_
    rintro e w' ⟨rfl, rfl⟩
    go_wp2_with fail
    refine HQ.out.mono ?_
    rintro e w' ⟨rfl, rfl⟩
    go_wp2_with fail
    refine HP.out.mono ?_
    rintro e w1 ⟨rfl, hq⟩
    have HQ := Lib.hid hq
    clear hq HP
    go_wp2_with fail
    go_ret
    exact ⟨rfl, HQ.out⟩
  · go_enter Try.func27, Try.ntmps27
    go_wp2_with fail
    refine (has_yes _ _ _ HH.out).mono ?_
    rintro e w' ⟨rfl, rfl⟩
    go_wp2_with fail
    refine HQ.out.mono ?_
    rintro e w' ⟨rfl, rfl⟩
    go_wp2_with fail
    refine HP.out.mono ?_
    rintro e w1 ⟨rfl, hq⟩
    have HQ := Lib.hid hq
    clear hq HP
    go_wp2_with fail
    go_ret
    exact ⟨rfl, HQ.out⟩
theorem LnPost.same (h : Ln w b S n F V) : LnPost w b S n F V w := ⟨S, h, Goes.refl _ _⟩
theorem push_any (c x : Int) (h : Ln w b S n F V) : Calls Try.prog 27 #[.pointer (some ⟨b, 0, none⟩), .int .i64 c, .int .i64 x] w fun e w' => e = .returned (.int .i64 (errP n F V c)) ∧ LnPost w b S n (pushF n F c x) (pushV n V c x) w' := by
  have h0 := h
  obtain ⟨f, v, gf, gv, h1, h2⟩ := h
  by_cases c0 : c = 0
  · subst c0
    by_cases hr : F.length < n
    · refine (push_with (b := b) 0 x 1 f w _ (.inl rfl) (queue_zero b f w h1.cells.1) (ring_room h1.2.1 x hr) (.inr rfl)).mono ?_
      rintro e w' ⟨he, g', a1, a2, a3⟩
      obtain ⟨S', b1, b2⟩ := h1.setF a1 a2 a3
      refine ⟨by rw [he]; simp [errP, hr], S', ?_, b2.iff h2⟩
      simpa [pushF, pushV, hr] using b1
    · refine (push_with (b := b) 0 x 0 f w _ (.inl rfl) (queue_zero b f w h1.cells.1) (ring_full h1.2.1 x hr) (.inl rfl)).mono ?_
      rintro e w' ⟨he, g', a1, a2, a3⟩
      obtain ⟨S', b1, b2⟩ := h1.setF a1 a2 a3
      refine ⟨by rw [he]; simp [errP, hr], S', ?_, b2.iff h2⟩
      simpa [pushF, pushV, hr] using b1
  · by_cases c1 : c = 1
    · subst c1
      by_cases hr : V.length < n
      · refine (push_with (b := b) 1 x 1 v w _ (.inr rfl) (queue_one b v w h1.cells.2) (ring_room h1.2.2.1 x hr) (.inr rfl)).mono ?_
        rintro e w' ⟨he, g', a1, a2, a3⟩
        obtain ⟨S', b1, b2⟩ := h1.setV a1 a2 a3
        refine ⟨by rw [he]; simp [errP, hr], S', ?_, b2.iff h2⟩
        simpa [pushF, pushV, hr] using b1
      · refine (push_with (b := b) 1 x 0 v w _ (.inr rfl) (queue_one b v w h1.cells.2) (ring_full h1.2.2.1 x hr) (.inl rfl)).mono ?_
        rintro e w' ⟨he, g', a1, a2, a3⟩
        obtain ⟨S', b1, b2⟩ := h1.setV a1 a2 a3
        refine ⟨by rw [he]; simp [errP, hr], S', ?_, b2.iff h2⟩
        simpa [pushF, pushV, hr] using b1
    · refine (push_no c x w (by omega)).mono ?_
      rintro e w' ⟨he, rfl⟩
      refine ⟨by rw [he]; simp [errP, c0, c1], ?_⟩
      have : Ln w b S n (pushF n F c x) (pushV n V c x) := by simpa [pushF, pushV, c0, c1] using h0
      exact LnPost.same this

/-- The ring that is served next: what Peek and Pop do there. -/
theorem queue_head (h : Ln w b S n F V) : Calls Try.prog 43 #[.pointer (some ⟨b, 0, none⟩), .int .i64 (hdC F V)] w fun e w' => w = w' ∧ ∃ r : Nat, e = .returned (.pointer (some ⟨r, 0, none⟩)) ∧
    Hid (Calls Try.prog 46 #[.pointer (some ⟨r, 0, none⟩), .int .i64 0] w fun e w' => e = .returned (.tuple #[.int .i64 (hdI F V), .bool (hdB F V)]) ∧ ∃ m, w' = w.drewN m) ∧
    Hid (Calls Try.prog 63 #[.pointer (some ⟨r, 0, none⟩)] w fun e w' => (∃ v, e = .returned v) ∧ LnPost w b S n (popF F) (popV F V) w') := by
  have h' := h
  obtain ⟨f, v, gf, gv, h1, h2⟩ := h
  rcases F with _ | ⟨x, F⟩
  · rcases V with _ | ⟨y, V⟩
    · refine (queue_zero b f w h1.cells.1).mono ?_
      rintro e w' ⟨he, hw⟩
      refine ⟨hw, f, he, Lib.hid ((ri_peek_out f 0 0 w h1.2.1.cells.2 (by omega)).mono fun e w' ⟨a, b⟩ => ⟨a, 0, b.symm⟩), Lib.hid ((ri_pop_empty f w h1.2.1.cells.2).mono fun e w' ⟨a, b⟩ => ⟨⟨_, a⟩, b ▸ LnPost.same h'⟩)⟩
    · refine (queue_one b v w h1.cells.2).mono ?_
      rintro e w' ⟨he, hw⟩
      refine ⟨hw, v, he, Lib.hid (ri_peek_at v n _ 0 gv _ _ w h1.2.2.1 rfl), Lib.hid ((ri_pop_at v n V.length gv (V.map (Value.int .i64)) (.int .i64 y) w h1.2.2.1).mono fun e w' ⟨a, b1, b2⟩ => ⟨⟨_, a⟩, ?_⟩)⟩
      obtain ⟨S', c1, c2⟩ := h1.setV b1 (fun i e => .inl e) b2
      exact ⟨S', c1, c2.iff h2⟩
  · refine (queue_zero b f w h1.cells.1).mono ?_
    rintro e w' ⟨he, hw⟩
    refine ⟨hw, f, he, Lib.hid (ri_peek_at f n _ 0 gf _ _ w h1.2.1 rfl), Lib.hid ((ri_pop_at f n F.length gf (F.map (Value.int .i64)) (.int .i64 x) w h1.2.1).mono fun e w' ⟨a, b1, b2⟩ => ⟨⟨_, a⟩, ?_⟩)⟩
    obtain ⟨S', c1, c2⟩ := h1.setF b1 (fun i e => .inl e) b2
    exact ⟨S', c1, c2.iff h2⟩
theorem head_nil (w : World) : Calls Try.prog 21 #[.pointer none] w fun e w' => e = .returned (.tuple #[.int .i64 0, .int .i64 0, .bool false]) ∧ w = w' := by
  go_enter Try.func21, Try.ntmps21
  go_wp2
  go_ret3
  exact ⟨rfl, rfl⟩
theorem head_any (h : Ln w b S n F V) : Calls Try.prog 21 #[.pointer (some ⟨b, 0, none⟩)] w fun e w' => e = .returned (.tuple #[.int .i64 (hdI F V), .int .i64 (hdC F V), .bool (hdB F V)]) ∧ ∃ m, w' = w.drewN m := by
  have HL := Lib.hid h
  clear h
  go_enter Try.func21, Try.ntmps21
  go_wp2_with fail
  refine (next_any HL.out).mono ?_
  rintro e w' ⟨rfl, m, rfl⟩
  have HL1 := Lib.hid (HL.out.drewN m)
  go_wp2_with fail
  refine (queue_head HL1.out).mono ?_
  rintro e w' ⟨rfl, r, rfl, HP, -⟩
  clear HL1 HL
  go_wp2_with fail
  refine HP.out.mono ?_
  rintro e w' ⟨rfl, q, rfl⟩
  clear HP
  go_wp2
  go_ret3
  exact ⟨rfl, m + q, rfl⟩
theorem pop_nil (w : World) : Calls Try.prog 54 #[.pointer none] w fun e w' => e = .returned (.tuple #[.int .i64 0, .int .i64 0, .bool false]) ∧ w = w' := by
  go_enter Try.func54, Try.ntmps54
  go_wp2_with fail
  refine (head_nil _).mono ?_
  rintro e w' ⟨rfl, rfl⟩
  go_wp2_with fail
  refine (queue_nil _ _).mono ?_
  rintro e w' ⟨rfl, rfl⟩
  go_wp2_with fail
  refine (ri_pop_nil _).mono ?_
  rintro e w' ⟨rfl, rfl⟩
  go_wp2
  go_ret3
  exact ⟨rfl, rfl⟩
theorem pop_any (h : Ln w b S n F V) : Calls Try.prog 54 #[.pointer (some ⟨b, 0, none⟩)] w fun e w' => e = .returned (.tuple #[.int .i64 (hdI F V), .int .i64 (hdC F V), .bool (hdB F V)]) ∧ LnPost w b S n (popF F) (popV F V) w' := by
  have HL := Lib.hid h
  clear h
  go_enter Try.func54, Try.ntmps54
  go_wp2_with fail
  refine (head_any HL.out).mono ?_
  rintro e w' ⟨rfl, m, rfl⟩
  have HL1 := Lib.hid (HL.out.drewN m)
  go_wp2_with fail
  refine (queue_head HL1.out).mono ?_
  rintro e w' ⟨rfl, r, rfl, -, HP⟩
  clear HL1 HL
  go_wp2_with fail
  refine HP.out.mono ?_
  rintro e w' ⟨⟨u, rfl⟩, S', hl, hg⟩
  have HE : Hid (LnPost w b S n (popF F) (popV F V) w') := Lib.hid ⟨S', hl, ⟨((Kept.refl _ w).drewN m).trans hg.1 (fun _ _ h => h), hg.2⟩⟩
  clear HP hl hg
  go_wp2
  go_ret3
  exact ⟨rfl, HE.out⟩
end
end Go.Proofs.Ytkeclanbebiogaa
