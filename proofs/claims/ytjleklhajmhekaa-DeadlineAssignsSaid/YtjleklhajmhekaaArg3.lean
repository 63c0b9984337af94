/- Three slices of numbers of 16 bits, by value, as an argument. -/
import Derived.Test.YtjleklhajmhekaaKept
import Derived.Laws.IdiomArrays
import Derived.ChangeSlices
import Derived.ChangeArms
import Derived.WideShapes
namespace Go.Proofs.Ytjleklhajmhekaa
open Go Go.ChangeShapes Go.WideShapes Go.RowKit
set_option linter.unusedVariables false
set_option linter.unusedSimpArgs false
set_option maxRecDepth 100000

/-- A slice's value. -/
structure Sl where
  at_ : Option Addr
  len : Nat
  cap : Nat
def Sl.val (s : Sl) : Value := .slice s.at_ s.len s.cap
structure Sl3 where
  s0 : Sl
  s1 : Sl
  s2 : Sl
def cellsS3 (x : Sl3) : Array Value := #[x.s0.val, x.s1.val, x.s2.val]
/-- A slice that reads as numbers of 16 bits. -/
def U16 (w : World) (s : Sl) (z : List Int) : Prop := z.length = s.len ∧ s.len ≤ 9223372036854775807 ∧ (∀ j, 0 ≤ z.getD j 0 ∧ z.getD j 0 ≤ 65535) ∧ (0 < s.len → ∃ b off, s.at_ = some ⟨b, off, none⟩ ∧ b < w.heap.size ∧ ∀ j, j < s.len → w.cell? ⟨b, off + j, none⟩ = some (.int .u16 (z.getD j 0)))
def FitsS3 (w : World) (x : Sl3) : Prop := (∃ z, U16 w x.s0 z) ∧ (∃ z, U16 w x.s1 z) ∧ ∃ z, U16 w x.s2 z
theorem U16.below {w w' : World} {s : Sl} {z : List Int} (h : U16 w s z) (hb : Below w.heap.size w w') : U16 w' s z := ⟨h.1, h.2.1, h.2.2.1, fun h0 => by
  obtain ⟨b, off, e, hl, hc⟩ := h.2.2.2 h0
  exact ⟨b, off, e, Nat.lt_of_lt_of_le hl hb.size, fun j hj => (hb.cell (p := ⟨b, off + j, none⟩) hl).trans (hc j hj)⟩⟩
theorem bounds_u16 {n : Int} (h : (Lit.int .u16 n).wf = true) : 0 ≤ n ∧ n ≤ 65535 := by
  simp [Lit.wf, IntKind.min, IntKind.max, IntKind.signed, IntKind.bits] at h
  omega
theorem u16_of_row {w : World} {a : Option Addr} {len cap : Nat} {z : List Int} (h : IsRow .u16 w a len cap z) : ∃ z', U16 w ⟨a, len, cap⟩ z' := by
  have hl : (z.take len).length = len ∧ len ≤ 9223372036854775807 := by
    rcases h with ⟨_, h1, h2, h3⟩ | ⟨x, _, h1, h2, h3, _, _⟩
    · subst h1 h2; simp
    · unfold maxLen at h2; simp; omega
  have hget : ∀ j, j < len → (z.take len).getD j 0 = z.getD j 0 := fun j hj => by simp [List.getD_eq_getElem?_getD, List.getElem?_take_of_lt hj]
  refine ⟨z.take len, hl.1, hl.2, fun j => ?_, fun h0 => ?_⟩
  · rcases Nat.lt_or_ge j len with hj | hj
    · obtain ⟨b, off, e, hb, _, hc⟩ := row_cells h (by omega)
      rw [hget j hj]
      exact bounds_u16 (hc j hj).2
    · rw [List.getD_eq_getElem?_getD, List.getElem?_eq_none (by omega)]
      exact ⟨by decide, by decide⟩
  · obtain ⟨b, off, e, hb, _, hc⟩ := row_cells h h0
    exact ⟨b, off, e, hb, fun j hj => by rw [(hc j hj).1]; show _ = some (Value.int .u16 ((z.take len).getD j 0)); rw [hget j hj]⟩
section
variable {H : Type} {enc : TypeId × Value → H} {w : World} {base : Nat} {held : Bool}
theorem u16_of_trod {n : Nat} {v : Value} {y : DataW H × List MemPlace} (h : DataW.trod enc Try.prog w base (fun _ => true) held n 37 [v] = some y) : ∃ s : Sl, v = s.val ∧ ∃ z, U16 w s z := by
  rcases open_ints Try.underlying37 Try.underlying39 (by kernel_rfl) h with ⟨hcs, _⟩ | ⟨x, l, c, zs, hcs, _, hl, hm, hz, _, hcell, hwz⟩
  · injection hcs with hcs
    exact ⟨⟨none, 0, 0⟩, hcs, u16_of_row (z := []) (.inl ⟨rfl, rfl, rfl, rfl⟩)⟩
  · injection hcs with hcs
    refine ⟨⟨some x, l, c⟩, by simpa [Sl.val] using hcs, u16_of_row (z := zs) (.inr ⟨_, rfl, hl, hm, by simpa using hz, hcell, hwz⟩)⟩
theorem open_T38 {r : Reach} {b0 : Nat} {v : Value} {d : DataW H} {p : List MemPlace} (hv : Value.okWide Try.prog w r b0 38 v) (h : DataW.Trod enc Try.prog w base (fun _ => true) held 38 v d p) : ∃ c : Sl3, v = .agg (cellsS3 c) ∧ FitsS3 w c := by
  have hu := Try.underlying38
  simp only [Value.okWide, hu] at hv
  obtain ⟨cs, rfl, hsz, _⟩ := hv
  have h4 : Try.prog.cellsOf 38 = 3 := by kernel_rfl
  rw [h4] at hsz
  obtain ⟨l⟩ := cs
  have hl : l.length = 3 := by simpa using hsz
  obtain ⟨fuel, hf⟩ := h
  match l, hl with
  | [v0, v1, v2], _ =>
    obtain ⟨y0, y1, y2, m, _, t0, t1, t2⟩ := trod_array3 hu (by kernel_rfl) (show DataW.trod enc Try.prog w base (fun _ => true) held fuel 38 [v0, v1, v2] = _ from hf)
    obtain ⟨s0, rfl, z0⟩ := u16_of_trod t0
    obtain ⟨s1, rfl, z1⟩ := u16_of_trod t1
    obtain ⟨s2, rfl, z2⟩ := u16_of_trod t2
    exact ⟨⟨s0, s1, s2⟩, rfl, z0, z1, z2⟩
end
end Go.Proofs.Ytjleklhajmhekaa
