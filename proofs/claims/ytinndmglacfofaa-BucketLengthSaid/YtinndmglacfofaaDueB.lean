/- Due, whatever comes. -/
import Derived.Test.YtinndmglacfofaaDue
namespace Go.Proofs.Ytinndmglacfofaa
open Go Go.RowKit Go.Deep
set_option linter.unusedVariables false
set_option linter.unusedSimpArgs false

set_option maxHeartbeats 1600000 in
theorem due_bare (b B n j : Nat) (ss : List Value) (L : List Ent) (ep : Int) (w : World) (h : RingP w b B n ss L) (hs : ss[j]? = some (.slice none 0 0)) (h0 : 0 ≤ ep) (h1 : ep ≤ 1099511627776) (hj : ep % (n : Int) = (j : Int)) (hl : bk n L j = []) :
    Calls Try.prog 20 #[.pointer (some ⟨b, 0, none⟩), .int .i64 ep] w (DuePost w b B n j ss (.slice none 0 0) L ep) := by
  have hjn : j < n := by have := (List.getElem?_eq_some_iff.1 hs).1; have := h.len; omega
  obtain ⟨x0, x1⟩ := h.cells hs
  have HN := Lib.hid (number_any b n j n (some ⟨B, 0, none⟩) ep w x0 h.pos h.top h0 h1 hj)
  have hj1 : ¬ (j : Int) < 0 := by omega
  have hj2 : ¬ (n : Int) ≤ (j : Int) := by omega
  have hj3 : (j : Int) < (n : Int) := by omega
  have hn4 : n ≤ 4096 := h.top
  have z1 : w.frozen? ⟨B, j, none⟩ = false := h.bks.frozen j
  have HP : Hid (DuePost w b B n j ss (.slice none 0 0) L ep (.returned (.slice none 0 0)) (w.setCell ⟨B, j, none⟩ (.slice none 0 0))) := Lib.hid (by
    have hg : goes ep L = [] := by rw [← goes_bk hj, hl]; rfl
    refine ⟨_, .slice none 0 0, rfl, ?_, due_ring h hs hj (Kept.refl _ _) ?_ rfl, rfl, (Kept.refl _ _).setCell (.inl (.inl rfl)) _⟩
    · rw [hg]; exact World.ownsRow_nil _ _ _ _
    · rw [hl]; exact World.ownsRow_nil _ _ _ _)
  clear h hs hj hl
  go_enter Try.func20, Try.ntmps20
  go_wp2_with fail
  refine HN.out.mono ?_
  rintro e w' ⟨rfl, rfl⟩
  clear HN
  go_wp2_with fail
  go_loopw [7, 8, 35] (fun s7 s8 s35 wr => s7 = .slice none 0 0 ∧ s8 = .slice none 0 0 ∧ s35 = .int .i64 0 ∧ w = wr) (fun _ _ _ _ => 0)
  case atStart => exact ⟨rfl, rfl, rfl, rfl⟩
  case round =>
    obtain ⟨rfl, rfl, rfl, rfl⟩ := hrel
    go_wp2
    go_ret
    exact HP.out

/-- Due, whatever comes. -/
theorem due_any (b n : Nat) (S : Nat → Prop) (L : List Ent) (ep : Int) (w : World) (h : Ring w b S n L) (h0 : 0 ≤ ep) (h1 : ep ≤ 1099511627776) (hL : L.length ≤ 100000) :
    Calls Try.prog 20 #[.pointer (some ⟨b, 0, none⟩), .int .i64 ep] w fun e w' => ∃ v S', e = .returned v ∧ w'.ownsRow w.heap.size 3 1 v (goes ep L).length ((goes ep L).map (Value.int .i64)) ∧ Ring w' b S' n (stay ep L) ∧ (∀ i, S' i → S i) ∧ Kept S w w' := by
  obtain ⟨B, ss, hp, hS⟩ := h
  obtain ⟨j, hj⟩ : ∃ j : Nat, ep % (n : Int) = (j : Int) := ⟨(ep % (n : Int)).toNat, by have := Int.emod_nonneg ep (b := (n : Int)) (by have := hp.pos; omega); omega⟩
  have hjn : j < n := by have := Int.emod_lt_of_pos ep (b := (n : Int)) (by have := hp.pos; omega); omega
  obtain ⟨s, hs⟩ := hp.get hjn
  have key : Calls Try.prog 20 #[.pointer (some ⟨b, 0, none⟩), .int .i64 ep] w (DuePost w b B n j ss s L ep) := by
    have hr := hp.row j s hs
    rcases hr.2 with ⟨h1, h2⟩ | ⟨g, cp, cur, h1, _⟩
    · subst h1
      exact due_bare b B n j ss L ep w hp hs h0 ‹_› hj (List.eq_nil_of_length_eq_zero h2)
    · subst h1
      exact due_row b B n j g cp ss L ep w hp hs h0 ‹_› hj hL
  refine key.mono ?_
  rintro e w' ⟨v, s', he, ho, h2, h3, h4⟩
  refine ⟨v, fun i => i = b ∨ i = B ∨ ∃ s : Value, s ∈ ss.set j s' ∧ s.ownBlock = some i, he, ho, ⟨B, _, h2, fun _ => Iff.rfl⟩, ?_, h4.more (fun i _ hi => ?_)⟩
  · rintro i (rfl | rfl | ⟨t, ht, hq⟩)
    · exact (hS _).2 (.inl rfl)
    · exact (hS _).2 (.inr (.inl rfl))
    · rcases List.mem_or_eq_of_mem_set ht with ht | rfl
      · exact (hS i).2 (.inr (.inr ⟨t, ht, hq⟩))
      · exact (hS i).2 (.inr (.inr ⟨s, List.mem_of_getElem? hs, by rw [← h3]; exact hq⟩))
  · rcases hi with rfl | hi
    · exact (hS _).2 (.inr (.inl rfl))
    · exact (hS _).2 (.inr (.inr ⟨s, List.mem_of_getElem? hs, hi⟩))
end Go.Proofs.Ytinndmglacfofaa
