/- The reference: two lists with a size. -/
import Derived.Test.YtjleklhajmhekaaLn
import Derived.Test.YtjleklhajmhekaaFirst
import Derived.Deep.AppendLies
import Derived.Maps.AppendAt
namespace Go.Proofs.Ytjleklhajmhekaa
open Go Go.RowKit
set_option linter.unusedVariables false
set_option maxRecDepth 100000
set_option linter.unusedSimpArgs false

/-- The reference in block d: its lists read as F and V; they lie in no block of S. -/
def RefAt (w : World) (S : Nat → Prop) (d n : Nat) (F V : List Int) : Prop :=
  ∃ a ca v cv, Blk w d 43 #[.slice a F.length ca, .slice v V.length cv, .int .i64 n] ∧ IntsAt w (fun i => i = d ∨ S i) a F ∧ IntsAt w (fun i => i = d ∨ S i) v V ∧
    F.length ≤ ca ∧ ca ≤ 9223372036854775807 ∧ F.length ≤ n ∧ V.length ≤ cv ∧ cv ≤ 9223372036854775807 ∧ V.length ≤ n ∧ n ≤ 4096
section
variable {w w' : World} {S T : Nat → Prop} {d n : Nat} {F V : List Int}
theorem RefAt.kept (h : RefAt w S d n F V) (k : Kept T w w') (hd : ¬ T d) (hT : ∀ i, i < w.heap.size → T i → S i) : RefAt w' S d n F V := by
  obtain ⟨a, ca, v, cv, h1, h2, h3, h4⟩ := h
  exact ⟨a, ca, v, cv, h1.kept k hd, h2.kept k (fun i hi ht => .inr (hT i hi ht)), h3.kept k (fun i hi ht => .inr (hT i hi ht)), h4⟩
theorem RefAt.other (h : RefAt w S d n F V) (hT : ∀ i, i < w.heap.size → T i → S i) : RefAt w T d n F V := by
  obtain ⟨a, ca, v, cv, h1, h2, h3, h4⟩ := h
  exact ⟨a, ca, v, cv, h1, h2.other (fun i hi ht => ht.imp id (hT i hi)), h3.other (fun i hi ht => ht.imp id (hT i hi)), h4⟩
theorem RefAt.below (h : RefAt w S d n F V) (hb : Below w.heap.size w w') : RefAt w' S d n F V := h.kept (Kept.of_below (S := fun _ => False) hb) id (fun _ _ h => h.elim)
theorem RefAt.drewN (h : RefAt w S d n F V) (m : Nat) : RefAt (w.drewN m) S d n F V := h
theorem RefAt.lt (h : RefAt w S d n F V) : d < w.heap.size := by obtain ⟨_, _, _, _, h1, _⟩ := h; exact h1.lt
theorem refAt_new (w : World) (S : Nat → Prop) (n : Nat) (hn : n ≤ 4096) : RefAt (w.alloc (.cells #[.slice none 0 0, .slice none 0 0, .int .i64 n] 43)) S w.heap.size n [] [] :=
  ⟨none, 0, none, 0, Blk.new _ _ _, IntsAt.nil _ _ _, IntsAt.nil _ _ _, by simp, by omega, by simp, by simp, by omega, by simp, hn⟩

/-- All: a slice that reads as the class's list. -/
theorem rall_any (c : Int) (h : RefAt w S d n F V) : Calls Try.prog 36 #[.pointer (some ⟨d, 0, none⟩), .int .i64 c] w fun e w' => ∃ a cap, e = .returned (.slice a (laneL F V c).length cap) ∧ (laneL F V c).length ≤ 4096 ∧ IntsAt w (fun i => i = d ∨ S i) a (laneL F V c) ∧ w = w' := by
  obtain ⟨a, ca, v, cv, h1, h2, h3, h4⟩ := h
  have x0 : w.cell? ⟨d, 0, none⟩ = some (.slice a F.length ca) := h1.cell 0
  have x1 : w.cell? ⟨d, 1, none⟩ = some (.slice v V.length cv) := h1.cell 1
  have H2 := Lib.hid h2
  have H3 := Lib.hid h3
  clear h1 h2 h3
  by_cases c0 : c = 0
  · subst c0
    go_enter Try.func36, Try.ntmps36
    go_wp2
    go_ret
    exact ⟨a, ca, rfl, by show F.length ≤ _; omega, H2.out, rfl⟩
  · by_cases c1 : c = 1
    · subst c1
      go_enter Try.func36, Try.ntmps36
      go_wp2
      go_ret
      exact ⟨v, cv, rfl, by show V.length ≤ _; omega, H3.out, rfl⟩
    · have hL : laneL F V c = [] := by rw [laneL, if_neg c0, if_neg c1]
      have HL := Lib.hid hL
      clear hL
      go_enter Try.func36, Try.ntmps36
      go_wp2
      go_ret
      exact ⟨none, 0, by rw [HL.out]; rfl, by rw [HL.out]; simp, by rw [HL.out]; exact IntsAt.nil _ _ _, rfl⟩
theorem rhead_any (h : RefAt w S d n F V) : Calls Try.prog 38 #[.pointer (some ⟨d, 0, none⟩)] w fun e w' => e = .returned (.tuple #[.int .i64 (hdI F V), .int .i64 (hdC F V), .bool (hdB F V)]) ∧ w = w' := by
  obtain ⟨a, ca, v, cv, h1, h2, h3, h4⟩ := h
  rcases F with _ | ⟨x, F⟩
  · have x0 : w.cell? ⟨d, 0, none⟩ = some (.slice a 0 ca) := h1.cell 0
    rcases V with _ | ⟨y, V⟩
    · have x1 : w.cell? ⟨d, 1, none⟩ = some (.slice v 0 cv) := h1.cell 1
      clear h1 h2 h3 h4
      go_enter Try.func38, Try.ntmps38
      go_wp2
      go_ret3
      exact ⟨rfl, rfl⟩
    · obtain ⟨g, o, rfl, _, _, hc⟩ := h3 (by simp)
      have y0 : w.cell? ⟨g, o, none⟩ = some (.int .i64 y) := hc 0 (by simp)
      have x1 : w.cell? ⟨d, 1, none⟩ = some (.slice (some ⟨g, o, none⟩) (V.length + 1) cv) := h1.cell 1
      clear h1 h2 hc
      go_enter Try.func38, Try.ntmps38
      go_wp2
      go_ret3
      exact ⟨rfl, rfl⟩
  · obtain ⟨g, o, rfl, _, _, hc⟩ := h2 (by simp)
    have y0 : w.cell? ⟨g, o, none⟩ = some (.int .i64 x) := hc 0 (by simp)
    have x0 : w.cell? ⟨d, 0, none⟩ = some (.slice (some ⟨g, o, none⟩) (F.length + 1) ca) := h1.cell 0
    clear h1 h3 hc
    go_enter Try.func38, Try.ntmps38
    go_wp2
    go_ret3
    exact ⟨rfl, rfl⟩
theorem ints_tail {g o : Nat} {x : Int} {L : List Int} (h : IntsAt w S (some ⟨g, o, none⟩) (x :: L)) (hk : Kept (fun i => i = d) w w') (hd : S d) : IntsAt w' S (some ⟨g, o + 1, none⟩) L := fun h0 => by
  obtain ⟨g', o', e, hn, hb, hc⟩ := h (by simp)
  injection e with e
  injection e with e1 e2
  subst e1 e2
  refine ⟨g, o + 1, rfl, hn, Nat.lt_of_lt_of_le hb hk.size, fun j hj => ?_⟩
  have := hc (j + 1) (by simp; omega)
  rw [show o + 1 + j = o + (j + 1) by omega]
  exact hk.cell (p := ⟨g, o + (j + 1), none⟩) (fun e => hn (by subst e; exact hd)) (by simpa using this)
theorem rpop_any (h : RefAt w S d n F V) : Calls Try.prog 42 #[.pointer (some ⟨d, 0, none⟩)] w fun e w' => e = .returned (.tuple #[.int .i64 (hdI F V), .int .i64 (hdC F V), .bool (hdB F V)]) ∧ RefAt w' S d n (popF F) (popV F V) ∧ Kept (fun i => i = d) w w' := by
  have HH := Lib.hid (rhead_any h)
  have h0 := h
  obtain ⟨a, ca, v, cv, h1, h2, h3, h4⟩ := h
  rcases F with _ | ⟨x, F⟩
  · have x0 : w.cell? ⟨d, 0, none⟩ = some (.slice a 0 ca) := h1.cell 0
    rcases V with _ | ⟨y, V⟩
    · have x1 : w.cell? ⟨d, 1, none⟩ = some (.slice v 0 cv) := h1.cell 1
      have H0 := Lib.hid h0
      clear h1 h2 h3 h4 h0
      go_enter Try.func42, Try.ntmps42
      go_wp2_with fail
      refine HH.out.mono ?_
      rintro e w' ⟨rfl, rfl⟩
      dsimp only [hdI, hdC, hdB]
      go_wp2
      go_ret3
      exact ⟨rfl, H0.out, Kept.refl _ _⟩
    · obtain ⟨g, o, rfl, _, _, hc⟩ := h3 (by simp)
      have x1 : w.cell? ⟨d, 1, none⟩ = some (.slice (some ⟨g, o, none⟩) (V.length + 1) cv) := h1.cell 1
      have f1 := h1.frozen 1
      have H1 := Lib.hid h1
      have H2 := Lib.hid h2
      have H3 := Lib.hid h3
      have H4 := Lib.hid h4
      have e1 : V.length + 1 ≤ cv := by simp only [List.length_cons] at h4; omega
      clear h1 h2 h3 h4 h0 hc
      go_enter Try.func42, Try.ntmps42
      go_wp2_with fail
      refine HH.out.mono ?_
      rintro e w' ⟨rfl, rfl⟩
      dsimp only [hdI, hdC, hdB]
      go_wp2_with fail
      all_goals
        go_ret3
        have h4 := H4.out
        simp only [List.length_nil, List.length_cons] at h4
        refine ⟨rfl, ⟨a, ca, _, _, H1.out.set_ 1 _, H2.out.kept (kept_set _ _ _ _) (fun i _ e => .inl e), ?_, Nat.zero_le _, by omega, Nat.zero_le _, by show V.length ≤ _; omega, by omega, by show V.length ≤ _; omega, by omega⟩, kept_set _ _ _ _⟩
        first
          | exact ints_tail (d := d) H3.out (kept_set _ _ _ _) (by exact Or.inl rfl)
          | exact fun h0 => by have h0 : 0 < V.length := h0; omega
  · obtain ⟨g, o, rfl, _, _, hc⟩ := h2 (by simp)
    have x0 : w.cell? ⟨d, 0, none⟩ = some (.slice (some ⟨g, o, none⟩) (F.length + 1) ca) := h1.cell 0
    have f0 := h1.frozen 0
    have H1 := Lib.hid h1
    have H2 := Lib.hid h2
    have H3 := Lib.hid h3
    have H4 := Lib.hid h4
    have e1 : F.length + 1 ≤ ca := by simp only [List.length_cons] at h4; omega
    clear h1 h2 h3 h4 h0 hc
    go_enter Try.func42, Try.ntmps42
    go_wp2_with fail
    refine HH.out.mono ?_
    rintro e w' ⟨rfl, rfl⟩
    dsimp only [hdI, hdC, hdB]
    go_wp2_with fail
    all_goals
      go_ret3
      have h4 := H4.out
      simp only [List.length_nil, List.length_cons] at h4
      refine ⟨rfl, ⟨_, _, v, cv, H1.out.set_ 0 _, ?_, H3.out.kept (kept_set _ _ _ _) (fun i _ e => .inl e), by show F.length ≤ _; omega, by omega, by show F.length ≤ _; omega, by show V.length ≤ _; omega, by omega, by show V.length ≤ _; omega, by omega⟩, kept_set _ _ _ _⟩
      first
        | exact ints_tail (d := d) H2.out (kept_set _ _ _ _) (by exact Or.inl rfl)
        | exact fun h0 => by have h0 : 0 < F.length := h0; omega
end
end Go.Proofs.Ytjleklhajmhekaa
