/- The laws' argument: operations. -/
import Derived.Test.YtlmjhggnecmggaaSlices
import Derived.ChangeSlices
namespace Go.Proofs.Ytlmjhggnecmggaa
open Go Go.ChangeShapes Go.WideShapes Go.RowKit Go.Deep

theorem spot_none {w : World} {x : Addr} {v : Value} (h : w.cell? (x.add 0) = some v) : x.spot = none := by
  have := World.cell?_spot h
  simpa [Addr.add] using this
/-- A slice of operations that came in. -/
def IsOps (w : World) (a : Option Addr) (len cap : Nat) : Prop :=
  len ≤ cap ∧ cap ≤ maxLen ∧ (0 < len → ∃ b off, a = some ⟨b, off, none⟩ ∧ b < w.heap.size ∧
    ∀ i, i < len → ∃ (p : Bool) (c x : Int), w.cell? ⟨b, off + i * 3, none⟩ = some (.bool p) ∧ w.cell? ⟨b, off + i * 3 + 1, none⟩ = some (.int .i64 c) ∧ w.cell? ⟨b, off + i * 3 + 2, none⟩ = some (.int .i64 x))
section
variable {H : Type} {enc : TypeId × Value → H} {w : World} {base : Nat} {held : Bool}
theorem open_S22 {r : Reach} {b0 : Nat} {v : Value} {d : DataW H} {p : List MemPlace} (hv : Value.okWide Try.prog w r b0 22 v) (h : DataW.Trod enc Try.prog w base (fun _ => true) held 22 v d p) : ∃ (a : Option Addr) (len cap : Nat), v = .slice a len cap ∧ IsOps w a len cap := by
  obtain ⟨a, len, cap, rfl⟩ := okWide_slice Try.underlying22 hv
  refine ⟨a, len, cap, rfl, ?_⟩
  obtain ⟨fuel, hf⟩ := h
  rcases open_slice_cells Try.underlying22 Try.underlying31 (by kernel_rfl) (by kernel_rfl) hf with hcs | ⟨x, l, c, hcs, hl, hm, hi⟩
  · simp [Value.cells] at hcs
    obtain ⟨rfl, rfl, rfl⟩ := hcs
    exact ⟨by omega, by unfold maxLen; omega, fun h0 => by omega⟩
  · simp [Value.cells] at hcs
    obtain ⟨rfl, rfl, rfl⟩ := hcs
    refine ⟨hl, hm, fun h0 => ?_⟩
    obtain ⟨b, off, spot⟩ := x
    obtain ⟨_, v0, _, hc0, _⟩ := hi 0 h0 0 _ rfl
    have hs : spot = none := spot_none hc0
    subst hs
    refine ⟨b, off, rfl, by have := cell_lt hc0; rwa [add_plain] at this, fun i hi' => ?_⟩
    obtain ⟨_, v0, _, hc0, ht0⟩ := hi i hi' 0 _ rfl
    obtain ⟨_, v1, _, hc1, ht1⟩ := hi i hi' 1 _ rfl
    obtain ⟨_, v2, _, hc2, ht2⟩ := hi i hi' 2 _ rfl
    obtain ⟨k, hk, _⟩ := DataW.trod_bool Try.underlying4 ht0
    obtain ⟨x, hx, _, _⟩ := DataW.trod_int Try.underlying3 ht1
    obtain ⟨y, hy, _, _⟩ := DataW.trod_int Try.underlying3 ht2
    injection hk with hk
    injection hx with hx
    injection hy with hy
    subst hk hx hy
    rw [add_plain] at hc0 hc1 hc2
    exact ⟨k, x, y, hc0, hc1, hc2⟩
end
/-- One operation, where the law's loop stands. -/
theorem IsOps.at {w wr : World} {a : Option Addr} {len cap k : Nat} (h : IsOps w a len cap) (hr : Below w.heap.size w wr) (hk : k < len) :
    ∃ b off p c x, a = some ⟨b, off, none⟩ ∧ wr.cell? ⟨b, off + k * 3, none⟩ = some (.bool p) ∧ wr.cell? ⟨b, off + k * 3 + 1, none⟩ = some (.int .i64 c) ∧ wr.cell? ⟨b, off + k * 3 + 2, none⟩ = some (.int .i64 x) := by
  obtain ⟨b, off, rfl, hbl, hc⟩ := h.2.2 (by omega)
  obtain ⟨p, c, x, x1, x2, x3⟩ := hc k hk
  exact ⟨b, off, p, c, x, rfl, (hr.cell (p := ⟨b, off + k * 3, none⟩) hbl).trans x1, (hr.cell (p := ⟨b, off + k * 3 + 1, none⟩) hbl).trans x2, (hr.cell (p := ⟨b, off + k * 3 + 2, none⟩) hbl).trans x3⟩
end Go.Proofs.Ytlmjhggnecmggaa
