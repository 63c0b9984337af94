/- Rows of amounts: a block that is a list of amounts, made anew or built; what Spread lays in it, as plain numbers. -/
import Derived.Test.YtcjohlbglbcglaaKept
import Derived.Laws.MakeOwn
namespace Go.Proofs.Ytcjohlbglbcglaa
open Go Go.RowKit
set_option linter.unusedVariables false
set_option linter.unusedSimpArgs false

theorem run_make_rowN {P : Program} (t e : TypeId) (i : TypeInfo) (z : Value) (ht : P.underlying t = some (.slice e)) (hi : P.info? e = some i) (hz : i.zero = some z)
    (kl kc : IntKind) (n c : Nat) (hnc : n ≤ c) (hbytes : i.bytes * c ≤ 281474976710656) (h63 : c ≤ 9223372036854775807) (w : World) :
    (Instr.makeSlice t (.int kl (n : Int)) (.int kc (c : Int))).run P w = .ok (.slice (some ⟨w.heap.size, 0, none⟩) n c) (w.alloc (.cells (madeCells z.cells (c * i.size)) e)) := by
  have hb : (i.bytes : Int) * (c : Int) ≤ 281474976710656 := by
    have h : ((i.bytes * c : Nat) : Int) ≤ 281474976710656 := by omega
    rwa [Int.natCast_mul] at h
  have hr := run_make (P := P) w t e i z ht hi hz kl kc n c (by omega) (by omega) hb (by omega)
  simp only [Int.toNat_natCast] at hr
  exact hr
/-- The cells of a list of amounts. -/
def cellsU (L : List Int) : Array Value := (L.map (Value.int .u64)).toArray
theorem cellsU_at {L : List Int} {i : Nat} (hi : i < L.length) : (cellsU L)[i]? = some (.int .u64 (L.getD i 0)) := by
  rw [cellsU, List.getElem?_toArray, List.getElem?_map, List.getD_eq_getElem?_getD, List.getElem?_eq_getElem hi]
  rfl
theorem cellsU_set (L : List Int) (i : Nat) (b : Int) : (cellsU L).setIfInBounds i (.int .u64 b) = cellsU (L.set i b) := by
  simp [cellsU, List.map_set]
theorem made_zero (n : Nat) : madeCells #[.int .u64 0] n = cellsU (List.replicate n 0) := by
  apply Array.ext
  · simp [madeCells, cellsU]
  · intro i h1 h2
    simp [madeCells, Nat.mod_one, cellsU]
theorem u64_info : ∃ i, Try.prog.info? 23 = some i ∧ i.zero = some (.int .u64 0) ∧ i.size = 1 ∧ i.bytes = 8 := by
  have h : (Try.prog.info? 23).map (fun i => (i.zero, i.size, i.bytes)) = some (some (.int .u64 0), 1, 8) := by kernel_rfl
  cases hi : Try.prog.info? 23 with
  | none => rw [hi] at h; cases h
  | some i =>
    rw [hi] at h
    simp at h
    exact ⟨i, rfl, h.1, h.2.1, h.2.2⟩
theorem run_make_amounts (n : Nat) (hn : n ≤ 100000) (w : World) :
    (Instr.makeSlice 24 (.int .i64 (n : Int)) (.int .i64 (n : Int))).run Try.prog w = .ok (.slice (some ⟨w.heap.size, 0, none⟩) n n) (w.alloc (.cells (cellsU (List.replicate n 0)) 23)) := by
  obtain ⟨i, hi, hz, hs, hby⟩ := u64_info
  have hmk := run_make_rowN (P := Try.prog) 24 23 i _ Try.underlying24 hi hz .i64 .i64 n n (Nat.le_refl _) (by rw [hby]; omega) (by omega) w
  rw [hs, Nat.mul_one] at hmk
  have hz' : (Value.int .u64 0).cells = #[.int .u64 0] := rfl
  rw [hz', made_zero] at hmk
  exact hmk
/-- Block g is the list L of amounts. -/
def BlkU (w : World) (g : Nat) (L : List Int) : Prop := Blk w g 23 (cellsU L)
section
variable {w : World} {g : Nat} {L : List Int}
theorem BlkU.cell (h : BlkU w g L) {i : Nat} (hi : i < L.length) : w.cell? ⟨g, i, none⟩ = some (.int .u64 (L.getD i 0)) := (Blk.cell h i).trans (cellsU_at hi)
theorem BlkU.frozen (h : BlkU w g L) (i : Nat) : w.frozen? ⟨g, i, none⟩ = false := Blk.frozen h i
theorem BlkU.set (h : BlkU w g L) (i : Nat) (b : Int) : BlkU (w.setCell ⟨g, i, none⟩ (.int .u64 b)) g (L.set i b) := by
  have := Blk.set_ h i (.int .u64 b)
  rw [cellsU_set] at this
  exact this
theorem BlkU.drewN (h : BlkU w g L) (n : Nat) : BlkU (w.drewN n) g L := h
theorem BlkU.alloc (h : BlkU w g L) (o : Obj) : BlkU (w.alloc o) g L := Blk.alloc h o
theorem BlkU.below {w' : World} (h : BlkU w g L) (hb : Below w.heap.size w w') : BlkU w' g L := Blk.below h hb (Blk.lt h)
end

end Go.Proofs.Ytcjohlbglbcglaa
