/- make([]bool, n): a row of bools of the call's own (stage 9's words). -/
import Derived.Test.YtnaheindlkehhaaPerf
import Derived.Laws.MakeOwn
namespace Go.Proofs.Ytnaheindlkehhaa
open Go Go.RowKit Go.Deep
set_option linter.unusedVariables false
set_option linter.unusedSimpArgs false

theorem run_make_rowN {P : Program} (t e : TypeId) (i : TypeInfo) (z : Value) (ht : P.underlying t = some (.slice e)) (hi : P.info? e = some i) (hz : i.zero = some z)
    (kl kc : IntKind) (n c : Nat) (hnc : n ≤ c) (hbytes : i.bytes * c ≤ 281474976710656) (h63 : c ≤ 9223372036854775807) (w : World) :
    (Instr.makeSlice t (.int kl (n : Int)) (.int kc (c : Int))).run P w = .ok (.slice (some ⟨w.heap.size, 0, none⟩) n c) (w.alloc (.cells (madeCells z.cells (c * i.size)) e)) := by
  have hb : (i.bytes : Int) * (c : Int) ≤ 281474976710656 := by
    have h : ((i.bytes * c : Nat) : Int) ≤ 281474976710656 := by omega
    rwa [Int.natCast_mul] at h
  have hr := run_make (P := P) w t e i z ht hi hz kl kc n c (by omega) (by omega) hb (by omega)
  simp only [Int.toNat_natCast] at hr
  exact hr
/-- The cells of a list of bools. -/
def cellsB (L : List Bool) : Array Value := (L.map Value.bool).toArray
theorem made_false (n : Nat) : madeCells #[.bool false] n = cellsB (List.replicate n false) := by
  apply Array.ext
  · simp [madeCells, cellsB]
  · intro i h1 h2
    simp [madeCells, Nat.mod_one, cellsB]
theorem bool_info : ∃ i, Try.prog.info? 4 = some i ∧ i.zero = some (.bool false) ∧ i.size = 1 ∧ i.bytes = 1 := by
  have h : (Try.prog.info? 4).map (fun i => (i.zero, i.size, i.bytes)) = some (some (.bool false), 1, 1) := by kernel_rfl
  cases hi : Try.prog.info? 4 with
  | none => rw [hi] at h; cases h
  | some i =>
    rw [hi] at h
    simp at h
    exact ⟨i, rfl, h.1, h.2.1, h.2.2⟩
theorem run_make_bools (n : Nat) (hn : n ≤ 100000) (w : World) :
    (Instr.makeSlice 42 (.int .i64 (n : Int)) (.int .i64 (n : Int))).run Try.prog w = .ok (.slice (some ⟨w.heap.size, 0, none⟩) n n) (w.alloc (.cells (cellsB (List.replicate n false)) 4)) := by
  obtain ⟨i, hi, hz, hs, hby⟩ := bool_info
  have hmk := run_make_rowN (P := Try.prog) 42 4 i _ Try.underlying42 hi hz .i64 .i64 n n (Nat.le_refl _) (by rw [hby]; omega) (by omega) w
  rw [hs, Nat.mul_one] at hmk
  have hz' : (Value.bool false).cells = #[.bool false] := rfl
  rw [hz', made_false] at hmk
  exact hmk
theorem cellsB_at {L : List Bool} {i : Nat} (hi : i < L.length) : (cellsB L)[i]? = some (.bool (L.getD i false)) := by
  rw [cellsB, List.getElem?_toArray, List.getElem?_map, List.getD_eq_getElem?_getD, List.getElem?_eq_getElem hi]
  rfl
theorem cellsB_set (L : List Bool) (i : Nat) (b : Bool) : (cellsB L).setIfInBounds i (.bool b) = cellsB (L.set i b) := by
  simp [cellsB, List.map_set]
/-- Block g is the list L of bools. -/
def BlkB (w : World) (g : Nat) (L : List Bool) : Prop := Blk w g 4 (cellsB L)
theorem BlkB.cell {w : World} {g : Nat} {L : List Bool} (h : BlkB w g L) {i : Nat} (hi : i < L.length) : w.cell? ⟨g, i, none⟩ = some (.bool (L.getD i false)) := (Blk.cell h i).trans (cellsB_at hi)
theorem BlkB.frozen {w : World} {g : Nat} {L : List Bool} (h : BlkB w g L) (i : Nat) : w.frozen? ⟨g, i, none⟩ = false := Blk.frozen h i
theorem BlkB.set {w : World} {g : Nat} {L : List Bool} (h : BlkB w g L) (i : Nat) (b : Bool) : BlkB (w.setCell ⟨g, i, none⟩ (.bool b)) g (L.set i b) := by
  have := Blk.set_ h i (.bool b)
  rw [cellsB_set] at this
  exact this
theorem BlkB.below {w w' : World} {g : Nat} {L : List Bool} (h : BlkB w g L) (hb : Below w.heap.size w w') : BlkB w' g L := Blk.below h hb (Blk.lt h)
end Go.Proofs.Ytnaheindlkehhaa
