/- The laws' arguments: operations; strings. -/
import Derived.Test.YteldkihbgfgkoaaSlices
import Derived.SliceStrings
import Derived.ChangeSlices
namespace Go.Proofs.Yteldkihbgfgkoaa
open Go Go.ChangeShapes Go.WideShapes Go.RowKit Go.Deep

theorem spot_none {w : World} {x : Addr} {v : Value} (h : w.cell? (x.add 0) = some v) : x.spot = none := by
  have := World.cell?_spot h
  simpa [Addr.add] using this

/-- A slice of operations that came in. -/
def IsOps (w : World) (a : Option Addr) (len cap : Nat) : Prop :=
  len ≤ cap ∧ cap ≤ maxLen ∧ (0 < len → ∃ b off, a = some ⟨b, off, none⟩ ∧ b < w.heap.size ∧
    ∀ i, i < len → ∃ (k : Int) (al : Option Addr) (ll cl : Nat) (z : List Int), w.cell? ⟨b, off + i * 2, none⟩ = some (.int .i64 k) ∧ w.cell? ⟨b, off + i * 2 + 1, none⟩ = some (.slice al ll cl) ∧ IsRow .i64 w al ll cl z)
/-- A slice of strings that came in. -/
def IsStrs (w : World) (a : Option Addr) (len cap : Nat) : Prop :=
  len ≤ cap ∧ cap ≤ maxLen ∧ (0 < len → ∃ b off, a = some ⟨b, off, none⟩ ∧ b < w.heap.size ∧ ∀ i, i < len → ∃ s : ByteArray, w.cell? ⟨b, off + i, none⟩ = some (.string s) ∧ s.size ≤ maxLen)

section
variable {H : Type} {enc : TypeId × Value → H} {w : World} {base : Nat} {held : Bool}
theorem row_of_trod {n : Nat} {v : Value} {y : DataW H × List MemPlace} (h : DataW.trod enc Try.prog w base (fun _ => true) held n 28 [v] = some y) : ∃ al ll cl z, v = .slice al ll cl ∧ IsRow .i64 w al ll cl z := by
  rcases open_ints Try.underlying28 Try.underlying3 (by kernel_rfl) h with ⟨hcs, _⟩ | ⟨x, l, c, zs, hcs, _, hl, hm, hz, _, hcell, hwz⟩
  · injection hcs with hcs
    exact ⟨none, 0, 0, [], hcs, .inl ⟨rfl, rfl, rfl, rfl⟩⟩
  · injection hcs with hcs
    exact ⟨some x, l, c, zs, hcs, .inr ⟨x, rfl, hl, hm, by simpa using hz, hcell, hwz⟩⟩
theorem open_S22 {r : Reach} {b0 : Nat} {v : Value} {d : DataW H} {p : List MemPlace} (hv : Value.okWide Try.prog w r b0 22 v) (h : DataW.Trod enc Try.prog w base (fun _ => true) held 22 v d p) : ∃ (a : Option Addr) (len cap : Nat), v = .slice a len cap ∧ IsOps w a len cap := by
  obtain ⟨a, len, cap, rfl⟩ := okWide_slice Try.underlying22 hv
  refine ⟨a, len, cap, rfl, ?_⟩
  obtain ⟨fuel, hf⟩ := h
  rcases open_slice_cells Try.underlying22 Try.underlying32 (by kernel_rfl) (by kernel_rfl) hf with hcs | ⟨x, l, c, hcs, hl, hm, hi⟩
  · simp [Value.cells] at hcs
    obtain ⟨rfl, rfl, rfl⟩ := hcs
    exact ⟨by omega, by unfold maxLen; omega, fun h0 => by omega⟩
  · simp [Value.cells] at hcs
    obtain ⟨rfl, rfl, rfl⟩ := hcs
    refine ⟨hl, hm, fun h0 => ?_⟩
    obtain ⟨b, off, spot⟩ := x
    obtain ⟨_, v0, _, hc0, _⟩ := hi 0 h0 0 _ rfl
    have hs : spot = none := spot_none hc0
    subst hs
    refine ⟨b, off, rfl, by have := cell_lt hc0; rwa [add_plain] at this, fun i hi' => ?_⟩
    obtain ⟨_, v0, _, hc0, ht0⟩ := hi i hi' 0 _ rfl
    obtain ⟨_, v1, _, hc1, ht1⟩ := hi i hi' 1 _ rfl
    obtain ⟨k, hk, _, _⟩ := DataW.trod_int Try.underlying3 ht0
    obtain ⟨al, ll, cl, z, hv1, hr⟩ := row_of_trod ht1
    injection hk with hk
    subst hk hv1
    rw [add_plain] at hc0 hc1
    exact ⟨k, al, ll, cl, z, hc0, hc1, hr⟩
theorem open_S47 {r : Reach} {b0 : Nat} {v : Value} {d : DataW H} {p : List MemPlace} (hv : Value.okWide Try.prog w r b0 47 v) (h : DataW.Trod enc Try.prog w base (fun _ => true) held 47 v d p) : ∃ (a : Option Addr) (len cap : Nat), v = .slice a len cap ∧ IsStrs w a len cap := by
  obtain ⟨a, len, cap, rfl⟩ := okWide_slice Try.underlying47 hv
  refine ⟨a, len, cap, rfl, ?_⟩
  obtain ⟨fuel, hf⟩ := h
  rcases open_strings Try.underlying47 Try.underlying9 (by kernel_rfl) hf with ⟨hcs, _⟩ | ⟨x, l, c, ss, hcs, _, hl, hm, hz, _, hcell, hwz⟩
  · simp [Value.cells] at hcs
    obtain ⟨rfl, rfl, rfl⟩ := hcs
    exact ⟨by omega, by unfold maxLen; omega, fun h0 => by omega⟩
  · simp [Value.cells] at hcs
    obtain ⟨rfl, rfl, rfl⟩ := hcs
    have hz : ss.length = cap := by simpa using hz
    refine ⟨hl, hm, fun h0 => ?_⟩
    obtain ⟨b, off, spot⟩ := x
    have hs : spot = none := spot_none (hcell 0 (by omega))
    subst hs
    refine ⟨b, off, rfl, by have := cell_lt (hcell 0 (by omega)); rwa [add_plain] at this, fun i hi => ?_⟩
    have hc := hcell i (by omega)
    rw [add_plain] at hc
    refine ⟨_, hc, hwz _ ?_⟩
    rw [List.getD_eq_getElem?_getD, List.getElem?_eq_getElem (by omega)]
    simp
end
end Go.Proofs.Yteldkihbgfgkoaa
