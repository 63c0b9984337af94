/- All, of both, in a law's loop; a list's entries changed one by one. -/
import Derived.Test.YtinndmglacfofaaOwn
import Derived.Test.YtinndmglacfofaaRefA
namespace Go.Proofs.Ytinndmglacfofaa
open Go Go.RowKit Go.Deep
set_option linter.unusedVariables false
set_option linter.unusedSimpArgs false

section
variable {w0 w w' : World} {b r n : Nat} {L t : List Ent}
theorem Keep.rall (h : Keep w0 w b r n L) (hL : L.length ≤ 10000) :
    Calls Try.prog 17 #[.pointer (some ⟨r, 0, none⟩)] w fun e w' => ∃ t a4 c4 a5 c5, e = .returned (.tuple #[.slice a4 t.length c4, .slice a5 t.length c5]) ∧ Hid (Srt t ∧ Stab L t) ∧ Hid (IntsAt w' (fun _ => False) a4 (t.map (·.1))) ∧ Hid (IntsAt w' (fun _ => False) a5 (t.map (·.2))) ∧ Hid (Keep w0 w' b r n L) := by
  obtain ⟨T, hr⟩ := h.ref
  refine (ref_all r T L w hr hL).mono ?_
  rintro e w' ⟨t, v4, v5, h1, h2, he, ha⟩
  obtain ⟨a4, c4, rfl, _, _, _, i4⟩ := ints_of_owns (S := fun _ => False) ha.e (fun _ _ h => h)
  obtain ⟨a5, c5, rfl, _, _, _, i5⟩ := ints_of_owns (S := fun _ => False) ha.i (fun _ _ h => h)
  exact ⟨t, a4, c4, a5, c5, he, Lib.hid ⟨h1, h2⟩, Lib.hid i4, Lib.hid i5, Lib.hid (h.below ha.below)⟩
/-- What All hands back: a row of its own. -/
def Fresh (w0 w : World) (a : Option Addr) (cap : Nat) (t : List Ent) : Prop := 0 < t.length → ∃ g, a = some ⟨g, 0, none⟩ ∧ w0.heap.size ≤ g ∧ Row w g cap t.length t
theorem Fresh.below {a : Option Addr} {cap : Nat} (h : Fresh w0 w a cap t) (k : Below w.heap.size w w') : Fresh w0 w' a cap t := fun h0 => by
  obtain ⟨g, e, hg, hr⟩ := h h0
  exact ⟨g, e, hg, hr.below k⟩
theorem ring_all {S : Nat → Prop} (h : Ring w b S n L) (hL : L.length ≤ 10000) (h1 : Srt t) (h2 : Stab L t) :
    Calls Try.prog 18 #[.pointer (some ⟨b, 0, none⟩)] w fun e w' => ∃ a cp, e = .returned (.slice a t.length cp) ∧ Fresh w w' a cp t ∧ Below w.heap.size w w' := by
  refine (all_any b n S L w h hL).mono ?_
  rintro e w' ⟨v, t', rfl, s1, s2, ho, hb⟩
  obtain rfl : t = t' := stab_unique h1 s1 (h2.symm.trans s2)
  rw [h2.len] at ho
  obtain ⟨a, cp, rfl, _, _⟩ := owns_slice (ho.1 |> fun _ => owns_base ho (Nat.zero_le _))
  refine ⟨a, cp, rfl, fun h0 => ?_, hb⟩
  rcases ho.2 with ⟨e1, e2⟩ | ⟨g, cp', cur, e1, e2, _⟩
  · omega
  · have e3 := e1
    injection e3 with e3 _ e4
    subst e3 e4
    exact ⟨g, rfl, e2, row_of_owns ho⟩
theorem ent_at {k : Nat} (hk : k < t.length) : t[k]? = some (t.getD k (0, 0)) := by
  rw [List.getD_eq_getElem?_getD, List.getElem?_eq_getElem hk]; rfl
theorem map1_at {k : Nat} (hk : k < t.length) : (t.map (·.1)).getD k 0 = (t.getD k (0, 0)).1 := by
  rw [List.getD_eq_getElem?_getD, List.getD_eq_getElem?_getD, List.getElem?_map, List.getElem?_eq_getElem hk]; rfl
theorem map2_at {k : Nat} (hk : k < t.length) : (t.map (·.2)).getD k 0 = (t.getD k (0, 0)).2 := by
  rw [List.getD_eq_getElem?_getD, List.getD_eq_getElem?_getD, List.getElem?_map, List.getElem?_eq_getElem hk]; rfl
theorem stab_fits (h : Stab L t) (ho : OkE L) {k : Nat} (hk : k < t.length) : 0 ≤ (t.getD k (0, 0)).1 ∧ (t.getD k (0, 0)).1 ≤ 1099511627776 := by
  have := List.mem_of_getElem? (ent_at hk)
  exact ho _ (h.perm.mem_iff.2 this)
/-- From entry k on the row is as it was. -/
def Rest (w0 w : World) (a : Option Addr) (t : List Ent) (k : Nat) : Prop :=
  Below w0.heap.size w0 w ∧ (k < t.length → ∃ g, a = some ⟨g, 0, none⟩ ∧ w0.heap.size ≤ g ∧ ∀ j, k ≤ j → j < t.length → w.cell? ⟨g, j * 2, none⟩ = some (.int .i64 (t.getD j (0, 0)).1) ∧ w.frozen? ⟨g, j * 2, none⟩ = false)
theorem Rest.start {a : Option Addr} {cap : Nat} (h : Fresh w0 w a cap t) (hb : Below w0.heap.size w0 w) : Rest w0 w a t 0 := by
  refine ⟨hb, fun h0 => ?_⟩
  obtain ⟨g, e, hg, hr⟩ := h h0
  refine ⟨g, e, hg, fun j _ hj => ⟨?_, ?_⟩⟩
  · exact hr.at (ent_at hj) 0 _ rfl
  · obtain ⟨_, _, _, rest, _, h5⟩ := hr
    exact h5.frozen _
theorem Rest.step {g k : Nat} (h : Rest w0 w (some ⟨g, 0, none⟩) t k) (hk : k < t.length) (v : Value) : Rest w0 (w.setCell ⟨g, k * 2, none⟩ v) (some ⟨g, 0, none⟩) t (k + 1) := by
  obtain ⟨hb, h⟩ := h
  obtain ⟨g', e, hg, hc⟩ := h hk
  obtain rfl : g = g' := by injection e with e; injection e
  refine ⟨⟨hb.os, hb.tape, hb.output, by simpa [World.setCell] using hb.size, fun i hi => ?_⟩, fun h1 => ⟨g, rfl, hg, fun j h2 h3 => ⟨?_, ?_⟩⟩⟩
  · exact (Below.heap_setCell w ⟨g, k * 2, none⟩ v i (by simp only; omega)).trans (hb.block i hi)
  · refine (World.cell?_setCell_other _ _ _ _ ?_).trans (hc j (by omega) h3).1
    intro e
    injection e with _ e
    omega
  · exact (World.frozen?_setCell _ _ _ _).trans (hc j (by omega) h3).2
end
end Go.Proofs.Ytinndmglacfofaa
