/- The laws' argument: operations. -/
import Derived.Test.YtbebmdbhoombgaaSlices
import Derived.ChangeSlices
namespace Go.Proofs.Ytbebmdbhoombgaa
open Go Go.ChangeShapes Go.WideShapes Go.RowKit Go.Deep

theorem spot_none {w : World} {x : Addr} {v : Value} (h : w.cell? (x.add 0) = some v) : x.spot = none := by
  have := World.cell?_spot h
  simpa [Addr.add] using this
/-- A slice of operations that came in. -/
def IsOps (w : World) (a : Option Addr) (len cap : Nat) : Prop :=
  len ≤ cap ∧ cap ≤ maxLen ∧ (0 < len → ∃ b off, a = some ⟨b, off, none⟩ ∧ b < w.heap.size ∧
    ∀ i, i < len → ∃ k x : Int, w.cell? ⟨b, off + i * 2, none⟩ = some (.int .i64 k) ∧ w.cell? ⟨b, off + i * 2 + 1, none⟩ = some (.int .u64 x) ∧ (Lit.int .u64 x).wf = true)
section
variable {H : Type} {enc : TypeId × Value → H} {w : World} {base : Nat} {held : Bool}
theorem open_S22 {r : Reach} {b0 : Nat} {v : Value} {d : DataW H} {p : List MemPlace} (hv : Value.okWide Try.prog w r b0 22 v) (h : DataW.Trod enc Try.prog w base (fun _ => true) held 22 v d p) : ∃ (a : Option Addr) (len cap : Nat), v = .slice a len cap ∧ IsOps w a len cap := by
  obtain ⟨a, len, cap, rfl⟩ := okWide_slice Try.underlying22 hv
  refine ⟨a, len, cap, rfl, ?_⟩
  obtain ⟨fuel, hf⟩ := h
  rcases open_slice_cells Try.underlying22 Try.underlying31 (by kernel_rfl) (by kernel_rfl) hf with hcs | ⟨x, l, c, hcs, hl, hm, hi⟩
  · simp [Value.cells] at hcs
    obtain ⟨rfl, rfl, rfl⟩ := hcs
    exact ⟨by omega, by unfold maxLen; omega, fun h0 => by omega⟩
  · simp [Value.cells] at hcs
    obtain ⟨rfl, rfl, rfl⟩ := hcs
    refine ⟨hl, hm, fun h0 => ?_⟩
    obtain ⟨b, off, spot⟩ := x
    obtain ⟨_, v0, _, hc0, _⟩ := hi 0 h0 0 _ rfl
    have hs : spot = none := spot_none hc0
    subst hs
    refine ⟨b, off, rfl, by have := cell_lt hc0; rwa [add_plain] at this, fun i hi' => ?_⟩
    obtain ⟨_, v0, _, hc0, ht0⟩ := hi i hi' 0 _ rfl
    obtain ⟨_, v1, _, hc1, ht1⟩ := hi i hi' 1 _ rfl
    obtain ⟨k, hk, _, _⟩ := DataW.trod_int Try.underlying3 ht0
    obtain ⟨x, hx, _, hw⟩ := DataW.trod_int Try.underlying26 ht1
    injection hk with hk
    injection hx with hx
    subst hk hx
    rw [add_plain] at hc0 hc1
    exact ⟨k, x, hc0, hc1, hw⟩
end
/-- One operation, where the law's loop stands. -/
theorem IsOps.at {w wr : World} {a : Option Addr} {len cap k : Nat} (h : IsOps w a len cap) (hr : Below w.heap.size w wr) (hk : k < len) :
    ∃ b off kd x, a = some ⟨b, off, none⟩ ∧ wr.cell? ⟨b, off + k * 2, none⟩ = some (.int .i64 kd) ∧ wr.cell? ⟨b, off + k * 2 + 1, none⟩ = some (.int .u64 x) ∧ (Lit.int .u64 x).wf = true := by
  obtain ⟨b, off, rfl, hbl, hc⟩ := h.2.2 (by omega)
  obtain ⟨kd, x, x1, x2, hx⟩ := hc k hk
  exact ⟨b, off, kd, x, rfl, (hr.cell (p := ⟨b, off + k * 2, none⟩) hbl).trans x1, (hr.cell (p := ⟨b, off + k * 2 + 1, none⟩) hbl).trans x2, hx⟩
end Go.Proofs.Ytbebmdbhoombgaa
