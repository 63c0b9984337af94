/- Rows of amounts: a block that is a list of amounts, made anew or built; what Spread lays in it, as plain numbers. -/
import Derived.Test.YthhfpkhmhhcaiaaKept
import Derived.Laws.MakeOwn
namespace Go.Proofs.Ythhfpkhmhhcaiaa
open Go Go.RowKit
set_option linter.unusedVariables false
set_option linter.unusedSimpArgs false

theorem run_make_rowN {P : Program} (t e : TypeId) (i : TypeInfo) (z : Value) (ht : P.underlying t = some (.slice e)) (hi : P.info? e = some i) (hz : i.zero = some z)
    (kl kc : IntKind) (n c : Nat) (hnc : n ≤ c) (hbytes : i.bytes * c ≤ 281474976710656) (h63 : c ≤ 9223372036854775807) (w : World) :
    (Instr.makeSlice t (.int kl (n : Int)) (.int kc (c : Int))).run P w = .ok (.slice (some ⟨w.heap.size, 0, none⟩) n c) (w.alloc (.cells (madeCells z.cells (c * i.size)) e)) := by
  have hb : (i.bytes : Int) * (c : Int) ≤ 281474976710656 := by
    have h : ((i.bytes * c : Nat) : Int) ≤ 281474976710656 := by omega
    rwa [Int.natCast_mul] at h
  have hr := run_make (P := P) w t e i z ht hi hz kl kc n c (by omega) (by omega) hb (by omega)
  simp only [Int.toNat_natCast] at hr
  exact hr
/-- The cells of a list of amounts. -/
def cellsU (L : List Int) : Array Value := (L.map (Value.int .u64)).toArray
theorem cellsU_at {L : List Int} {i : Nat} (hi : i < L.length) : (cellsU L)[i]? = some (.int .u64 (L.getD i 0)) := by
  rw [cellsU, List.getElem?_toArray, List.getElem?_map, List.getD_eq_getElem?_getD, List.getElem?_eq_getElem hi]
  rfl
theorem cellsU_set (L : List Int) (i : Nat) (b : Int) : (cellsU L).setIfInBounds i (.int .u64 b) = cellsU (L.set i b) := by
  simp [cellsU, List.map_set]
theorem made_zero (n : Nat) : madeCells #[.int .u64 0] n = cellsU (List.replicate n 0) := by
  apply Array.ext
  · simp [madeCells, cellsU]
  · intro i h1 h2
    simp [madeCells, Nat.mod_one, cellsU]
theorem u64_info : ∃ i, Try.prog.info? 22 = some i ∧ i.zero = some (.int .u64 0) ∧ i.size = 1 ∧ i.bytes = 8 := by
  have h : (Try.prog.info? 22).map (fun i => (i.zero, i.size, i.bytes)) = some (some (.int .u64 0), 1, 8) := by kernel_rfl
  cases hi : Try.prog.info? 22 with
  | none => rw [hi] at h; cases h
  | some i =>
    rw [hi] at h
    simp at h
    exact ⟨i, rfl, h.1, h.2.1, h.2.2⟩
theorem run_make_amounts (n : Nat) (hn : n ≤ 100000) (w : World) :
    (Instr.makeSlice 31 (.int .i64 (n : Int)) (.int .i64 (n : Int))).run Try.prog w = .ok (.slice (some ⟨w.heap.size, 0, none⟩) n n) (w.alloc (.cells (cellsU (List.replicate n 0)) 22)) := by
  obtain ⟨i, hi, hz, hs, hby⟩ := u64_info
  have hmk := run_make_rowN (P := Try.prog) 31 22 i _ Try.underlying31 hi hz .i64 .i64 n n (Nat.le_refl _) (by rw [hby]; omega) (by omega) w
  rw [hs, Nat.mul_one] at hmk
  have hz' : (Value.int .u64 0).cells = #[.int .u64 0] := rfl
  rw [hz', made_zero] at hmk
  exact hmk
/-- Block g is the list L of amounts. -/
def BlkU (w : World) (g : Nat) (L : List Int) : Prop := Blk w g 22 (cellsU L)
section
variable {w : World} {g : Nat} {L : List Int}
theorem BlkU.cell (h : BlkU w g L) {i : Nat} (hi : i < L.length) : w.cell? ⟨g, i, none⟩ = some (.int .u64 (L.getD i 0)) := (Blk.cell h i).trans (cellsU_at hi)
theorem BlkU.frozen (h : BlkU w g L) (i : Nat) : w.frozen? ⟨g, i, none⟩ = false := Blk.frozen h i
theorem BlkU.set (h : BlkU w g L) (i : Nat) (b : Int) : BlkU (w.setCell ⟨g, i, none⟩ (.int .u64 b)) g (L.set i b) := by
  have := Blk.set_ h i (.int .u64 b)
  rw [cellsU_set] at this
  exact this
theorem BlkU.drewN (h : BlkU w g L) (n : Nat) : BlkU (w.drewN n) g L := h
theorem BlkU.alloc (h : BlkU w g L) (o : Obj) : BlkU (w.alloc o) g L := Blk.alloc h o
theorem BlkU.below {w' : World} (h : BlkU w g L) (hb : Below w.heap.size w w') : BlkU w' g L := Blk.below h hb (Blk.lt h)
end

/-- What is left of a weight behind k epochs, and what the next epoch takes. -/
def wt (r d : Int) : Int := if r ≤ d then r else d
def rst (a d : Int) : Nat → Int
  | 0 => a
  | k + 1 => rst a d k - wt (rst a d k) d
section
variable {a d : Int}
theorem rst_nonneg (h0 : 0 ≤ a) : ∀ k, 0 ≤ rst a d k
  | 0 => h0
  | k + 1 => by
    have := rst_nonneg h0 k
    simp only [rst, wt]
    split <;> omega
theorem rst_le (h0 : 0 ≤ a) (h1 : 0 ≤ d) : ∀ k, rst a d k ≤ a
  | 0 => Int.le_refl _
  | k + 1 => by
    have := rst_le h0 h1 k
    have := rst_nonneg (d := d) h0 k
    simp only [rst, wt]
    split <;> omega
theorem rst_eq (h1 : 0 ≤ d) : ∀ k : Nat, (k : Int) * d ≤ a → rst a d k = a - (k : Int) * d
  | 0, _ => by simp [rst]
  | k + 1, h => by
    have e : ((k + 1 : Nat) : Int) * d = (k : Int) * d + d := by rw [Int.natCast_add, Int.add_mul]; simp
    rw [e] at h ⊢
    have ih := rst_eq h1 k (by omega)
    simp only [rst, wt]
    split <;> omega
/-- The list behind k rounds: the first k weights, then zeros. -/
def sprL (a d : Int) (n k : Nat) : List Int := (List.range n).map fun i => if i < k then wt (rst a d i) d else 0
theorem sprL_len (n k : Nat) : (sprL a d n k).length = n := by simp [sprL]
theorem sprL_zero (n : Nat) : sprL a d n 0 = List.replicate n 0 := by
  refine List.ext_getElem (by simp [sprL]) fun i h1 h2 => ?_
  simp [sprL]
theorem sprL_at {n k i : Nat} (hi : i < n) (hk : i < k) : (sprL a d n k).getD i 0 = wt (rst a d i) d := by
  rw [List.getD_eq_getElem?_getD, sprL, List.getElem?_map, List.getElem?_range hi]
  simp [hk]
theorem sprL_set {n k : Nat} (hk : k < n) : (sprL a d n k).set k (wt (rst a d k) d) = sprL a d n (k + 1) := by
  refine List.ext_getElem (by simp [sprL]) fun i h1 h2 => ?_
  rw [List.getElem_set]
  simp only [sprL, List.getElem_map, List.getElem_range]
  by_cases h : k = i
  · subst h; simp
  · rw [if_neg h]
    by_cases h3 : i < k
    · rw [if_pos h3, if_pos (by omega)]
    · rw [if_neg h3, if_neg (by omega)]
end
end Go.Proofs.Ythhfpkhmhhcaiaa
