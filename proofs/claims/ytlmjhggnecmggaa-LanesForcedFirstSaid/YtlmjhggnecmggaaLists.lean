/- Lanes: All, Ahead. -/
import Derived.Test.YtlmjhggnecmggaaOps
namespace Go.Proofs.Ytlmjhggnecmggaa
open Go Go.RowKit
set_option linter.unusedVariables false
set_option linter.unusedSimpArgs false

section
variable {w : World} {b n : Nat} {S : Nat → Prop} {F V : List Int}
theorem owns_blk {w : World} {g base : Nat} {L : List Int} (h : Blk w g 3 (L.map (Value.int .i64)).toArray) (hb : base ≤ g) (hl : L.length ≤ 9223372036854775807) : w.ownsRow base 3 1 (.slice (some ⟨g, 0, none⟩) L.length L.length) L.length (L.map (Value.int .i64)) :=
  ⟨by simp, .inr ⟨g, L.length, _, rfl, hb, h, Nat.le_refl _, by unfold maxLen; omega, by simp, List.take_of_length_le (by simp)⟩⟩
theorem ring_all {r size : Nat} {g : Option Nat} {L : List Int} (h : RingAt 65 3 1 w r g size L.length (L.map (Value.int .i64))) :
    Calls Try.prog 32 #[.pointer (some ⟨r, 0, none⟩)] w (ListPost w L) := by
  refine (ri_all_any r size L.length g _ w h).mono ?_
  rintro e w' ⟨he, hb, hw⟩
  exact ⟨_, he, owns_blk hb (Nat.le_refl _) (by have := h.size_le; omega), hw⟩
theorem all_any (c : Int) (h : Ln w b S n F V) : Calls Try.prog 20 #[.pointer (some ⟨b, 0, none⟩), .int .i64 c] w (ListPost w (laneL F V c)) := by
  have HQ := Lib.hid (queue_any c h)
  clear h
  go_enter Try.func20, Try.ntmps20
  go_wp2_with fail
  refine HQ.out.mono ?_
  rintro e w' ⟨rfl, ⟨rfl, h0, h1⟩ | ⟨r, g, rfl, hc, hr⟩⟩
  · have HE := Lib.hid (laneL_none (F := F) (V := V) h0 h1)
    clear h0 h1
    go_wp2_with fail
    refine (ri_all_nil _).mono ?_
    rintro e w' ⟨rfl, rfl⟩
    go_wp2
    go_ret
    exact ⟨_, rfl, by rw [HE.out]; exact World.ownsRow_nil _ _ _ _, Below.refl _ _⟩
  · have HR := Lib.hid (ring_all hr)
    clear hr hc
    go_wp2_with fail
    refine HR.out.mono ?_
    rintro e w' ⟨v, rfl, ho, hb⟩
    have HO := Lib.hid ho
    have HB := Lib.hid hb
    clear ho hb
    go_wp2
    go_ret
    exact ⟨_, rfl, HO.out, HB.out⟩
theorem ahead_nil (c : Int) (w : World) : Calls Try.prog 17 #[.pointer none, .int .i64 c] w fun e w' => e = .returned (.slice none 0 0) ∧ w = w' := by
  go_enter Try.func17, Try.ntmps17
  go_wp2_with fail
  refine (has_nil _ _).mono ?_
  rintro e w' ⟨rfl, rfl⟩
  go_wp2
  go_ret
  exact ⟨rfl, rfl⟩
theorem ahead_no (c : Int) (w : World) (h : c < 0 ∨ 2 ≤ c) : Calls Try.prog 17 #[.pointer (some ⟨b, 0, none⟩), .int .i64 c] w fun e w' => e = .returned (.slice none 0 0) ∧ w = w' := by
  have H := Lib.hid h
  clear h
  go_enter Try.func17, Try.ntmps17
  go_wp2_with fail
  refine (has_no _ _ _ H.out).mono ?_
  rintro e w' ⟨rfl, rfl⟩
  go_wp2
  go_ret
  exact ⟨rfl, rfl⟩
theorem below_grown {w0 w1 w2 : World} {v : Value} {B n : Nat} {xs : List Value} {t : TypeId} (h : Below B w0 w1) (hB : B ≤ w1.heap.size) (hg : w1.grownBy w2 v.ownBlock) (ho : w1.ownsRow B t 1 v n xs) : Below B w0 w2 := h.grown hg hB (fun q hq => (ho.lt q hq).1)
theorem ahead_zero (h : Ln w b S n F V) : Calls Try.prog 17 #[.pointer (some ⟨b, 0, none⟩), .int .i64 0] w (ListPost w F) := by
  obtain ⟨j0, hj0, hz0, hz1, hz2⟩ := int_app
  obtain ⟨f, v, gf, gv, h1, h2⟩ := h
  have x0 := h1.cells.1
  have HF := Lib.hid (ring_all h1.2.1)
  have hs := h1.2.1.size_le
  clear h1 h2
  go_enter Try.func17, Try.ntmps17
  go_wp2_with fail
  refine (has_yes _ _ _ (.inl rfl)).mono ?_
  rintro e w' ⟨rfl, rfl⟩
  go_wp2_with fail
  refine wp_loop_rounds 2 ?_
  rw [rounds_succ]
  go_wp2_with fail
  refine HF.out.mono ?_
  rintro e w1 ⟨u, rfl, ho, hb⟩
  have HO := Lib.hid ho
  have HB := Lib.hid hb
  obtain ⟨a, cp, rfl, _, _, _, hi⟩ := ints_of_owns (S := fun _ => False) ho (fun _ _ h => h)
  have HI := Lib.hid hi.src
  clear hi ho hb HF x0
  go_wp2_with (at_builtin; refine wpList_append_src _ rfl (.tmp 23) (.tmp 25) 27 rfl w.heap.size 3 j0 _ 1 8 Try.underlying27 hj0 hz0 hz1 hz2 rfl Nat.one_pos (.slice none 0 0) 0 [] rfl (World.ownsRow_nil _ _ _ _) a F.length cp (F.map (Value.int .i64)) rfl (by simp) (fun h0 => by obtain ⟨ad, e, _, hc⟩ := HI.out.2.2 h0; exact ⟨ad, e, hc⟩) HI.out.2.1 (by unfold maxLen; omega) (by omega) HB.out.size ?_; intro v2 w2 ho2 hg2 hv2)
  have HP : Hid (w2.ownsRow w.heap.size 3 1 v2 F.length (F.map (Value.int .i64)) ∧ Below w.heap.size w w2) := Lib.hid ⟨by simpa using ho2, HB.out.grown hg2 HB.out.size (fun q hq => by cases hq)⟩
  clear ho2 hg2 hv2 HO HB HI
  go_wp2_with fail
  rw [rounds_succ]
  go_wp2_with fail
  go_ret
  exact ⟨_, rfl, HP.out.1, HP.out.2⟩
theorem ahead_one (h : Ln w b S n F V) : Calls Try.prog 17 #[.pointer (some ⟨b, 0, none⟩), .int .i64 1] w (ListPost w (F ++ V)) := by
  obtain ⟨j0, hj0, hz0, hz1, hz2⟩ := int_app
  obtain ⟨f, v, gf, gv, h1, h2⟩ := h
  have x0 := h1.cells.1
  have H1 := Lib.hid h1
  have HF := Lib.hid (ring_all h1.2.1)
  have hs := h1.2.1.size_le
  have ht := h1.2.2.1.size_le
  clear h1 h2
  go_enter Try.func17, Try.ntmps17
  go_wp2_with fail
  refine (has_yes _ _ _ (.inr rfl)).mono ?_
  rintro e w' ⟨rfl, rfl⟩
  go_wp2_with fail
  refine wp_loop_rounds 3 ?_
  rw [rounds_succ]
  go_wp2_with fail
  refine HF.out.mono ?_
  rintro e w1 ⟨u, rfl, ho, hb⟩
  have HO := Lib.hid ho
  have HB := Lib.hid hb
  obtain ⟨a, cp, rfl, _, _, _, hi⟩ := ints_of_owns (S := fun _ => False) ho (fun _ _ h => h)
  have HI := Lib.hid hi.src
  clear hi ho hb HF x0
  go_wp2_with (at_builtin; refine wpList_append_src _ rfl (.tmp 23) (.tmp 25) 27 rfl w.heap.size 3 j0 _ 1 8 Try.underlying27 hj0 hz0 hz1 hz2 rfl Nat.one_pos (.slice none 0 0) 0 [] rfl (World.ownsRow_nil _ _ _ _) a F.length cp (F.map (Value.int .i64)) rfl (by simp) (fun h0 => by obtain ⟨ad, e, _, hc⟩ := HI.out.2.2 h0; exact ⟨ad, e, hc⟩) HI.out.2.1 (by unfold maxLen; omega) (by omega) HB.out.size ?_; intro v2 w2 ho2 hg2 hv2)
  have HP : Hid (w2.ownsRow w.heap.size 3 1 v2 F.length (F.map (Value.int .i64)) ∧ Below w.heap.size w w2) := Lib.hid ⟨by simpa using ho2, HB.out.grown hg2 HB.out.size (fun q hq => by cases hq)⟩
  have KP : Kept (fun _ => False) w w2 := Kept.of_below HP.out.2
  have x1 := KP.cell (fun h => h) H1.out.cells.2
  have HV := Lib.hid (ring_all (H1.out.2.2.1.kept KP (fun _ _ h => h)))
  clear ho2 hg2 hv2 HO HB HI KP
  go_wp2_with fail
  rw [rounds_succ]
  go_wp2_with fail
  refine HV.out.mono ?_
  rintro e w3 ⟨u, rfl, ho, hb⟩
  have HO := Lib.hid (show w3.ownsRow w.heap.size 3 1 v2 F.length (F.map (Value.int .i64)) ∧ Below w.heap.size w w3 from ⟨owns_below HP.out.1 hb, HP.out.2.trans (hb.mono HP.out.2.size)⟩)
  obtain ⟨a, cp, rfl, _, _, _, hi⟩ := ints_of_owns (S := fun _ => False) ho (fun _ _ h => h)
  have HI := Lib.hid hi.src
  clear hi ho hb HV x1
  go_wp2_with (at_builtin; refine wpList_append_src _ rfl (.tmp 23) (.tmp 25) 27 rfl w.heap.size 3 j0 _ 1 8 Try.underlying27 hj0 hz0 hz1 hz2 rfl Nat.one_pos v2 F.length (F.map (Value.int .i64)) rfl HO.out.1 a V.length cp (V.map (Value.int .i64)) rfl (by simp) (fun h0 => by obtain ⟨ad, e, _, hc⟩ := HI.out.2.2 h0; exact ⟨ad, e, hc⟩) HI.out.2.1 (by unfold maxLen; omega) (by omega) HO.out.2.size ?_; intro v4 w4 ho4 hg4 hv4)
  have HQ : Hid (w4.ownsRow w.heap.size 3 1 v4 (F ++ V).length ((F ++ V).map (Value.int .i64)) ∧ Below w.heap.size w w4) := Lib.hid ⟨by simpa using ho4, below_grown HO.out.2 HO.out.2.size hg4 HO.out.1⟩
  clear ho4 hg4 hv4 HO HI HP H1
  go_wp2_with fail
  rw [rounds_succ]
  go_wp2_with fail
  go_ret
  exact ⟨_, rfl, HQ.out.1, HQ.out.2⟩
theorem ahead_any (c : Int) (h : Ln w b S n F V) : Calls Try.prog 17 #[.pointer (some ⟨b, 0, none⟩), .int .i64 c] w (ListPost w (aheadL F V c)) := by
  by_cases c0 : c = 0
  · subst c0; exact ahead_zero h
  · by_cases c1 : c = 1
    · subst c1; exact ahead_one h
    · rw [aheadL, if_neg c0, if_neg c1]
      exact (ahead_no c w (by omega)).mono fun e w' ⟨he, hw⟩ => ⟨_, he, World.ownsRow_nil _ _ _ _, hw ▸ Below.refl _ _⟩
end
end Go.Proofs.Ytlmjhggnecmggaa
