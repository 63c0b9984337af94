/- Slices of bools; the law's argument; make([]bool, n). (Stage 9's words.) -/
import Derived.Test.YtjleklhajmhekaaCyc
import Derived.Test.YtjleklhajmhekaaInts
import Derived.WalkMore
import Derived.Deep.LoopGhost
import Derived.Test.YtjleklhajmhekaaSlices
import Derived.Test.YtjleklhajmhekaaStructs
import Derived.Deep.Grids
import Derived.Deep.MidRow
import Derived.Laws.MakeOwn
namespace Go.Proofs.Ytjleklhajmhekaa
open Go Go.ChangeShapes Go.WideShapes Go.RowKit Go.Deep
set_option linter.unusedVariables false
set_option linter.unusedSimpArgs false

/-- A slice of bools that reads as L; its block is not one of S. -/
def Bools (w : World) (S : Nat → Prop) (a : Option Addr) (L : List Bool) : Prop :=
  0 < L.length → ∃ b off, a = some ⟨b, off, none⟩ ∧ ¬ S b ∧ b < w.heap.size ∧ ∀ j, j < L.length → w.cell? ⟨b, off + j, none⟩ = some (.bool (L.getD j false))
section
variable {w w' : World} {S T : Nat → Prop} {a : Option Addr} {L : List Bool}
theorem Bools.kept (h : Bools w S a L) (k : Kept T w w') (hT : ∀ i, i < w.heap.size → T i → S i) : Bools w' S a L := fun hl => by
  obtain ⟨b, off, e, hn, hb, hc⟩ := h hl
  exact ⟨b, off, e, hn, Nat.lt_of_lt_of_le hb k.size, fun j hj => k.cell (fun ht => hn (hT _ hb ht)) (hc j hj)⟩
theorem Bools.other (h : Bools w S a L) (hT : ∀ i, i < w.heap.size → T i → S i) : Bools w T a L := fun hl => by
  obtain ⟨b, off, e, hn, hb, hc⟩ := h hl
  exact ⟨b, off, e, fun ht => hn (hT _ hb ht), hb, hc⟩
theorem Bools.below (h : Bools w S a L) (hb : Below w.heap.size w w') : Bools w' S a L := fun hl => by
  obtain ⟨b, off, e, hn, hb2, hc⟩ := h hl
  exact ⟨b, off, e, hn, Nat.lt_of_lt_of_le hb2 hb.size, fun j hj => (hb.cell (p := ⟨b, off + j, none⟩) hb2).trans (hc j hj)⟩
theorem Bools.of_blk {g : Nat} {t : TypeId} (h : Blk w g t (L.map Value.bool).toArray) (hn : ¬ S g) : Bools w S (some ⟨g, 0, none⟩) L := fun hl =>
  ⟨g, 0, rfl, hn, h.lt, fun j hj => by
    rw [Nat.zero_add, h.cell, List.getElem?_toArray, List.getElem?_map, List.getD_eq_getElem?_getD, List.getElem?_eq_getElem hj]
    rfl⟩
end
theorem owns_any {w : World} {base n : Nat} {v : Value} {xs : List Value} (h : w.ownsRow base 3 1 v n xs) : ∃ a cp, v = .slice a n cp := by
  rcases h.2 with ⟨rfl, rfl⟩ | ⟨g, cp, cur, rfl, _⟩
  · exact ⟨none, 0, rfl⟩
  · exact ⟨_, cp, rfl⟩

/-- A slice of bools that came in. -/
def IsBools (w : World) (a : Option Addr) (len cap : Nat) : Prop := ∃ L : List Bool, L.length = len ∧ len ≤ cap ∧ cap ≤ maxLen ∧ Bools w (fun _ => False) a L
section
variable {H : Type} {enc : TypeId × Value → H} {w : World} {base : Nat} {held : Bool}
theorem spot_none {w : World} {x : Addr} {v : Value} (h : w.cell? (x.add 0) = some v) : x.spot = none := by
  have := World.cell?_spot h
  simpa [Addr.add] using this
theorem bools_of_cells {a : Addr} {len cap : Nat} {B : Nat → Bool} (hl : len ≤ cap) (hc : ∀ i, i < cap → w.cell? (a.add i) = some (.bool (B i))) : Bools w (fun _ => False) (some a) ((List.range len).map B) := fun h0 => by
  simp only [List.length_map, List.length_range] at h0 ⊢
  obtain ⟨b, off, spot⟩ := a
  have hs : spot = none := spot_none (hc 0 (by omega))
  subst hs
  have h1 := hc 0 (by omega)
  refine ⟨b, off, rfl, fun h => h, cell_lt (p := ⟨b, off, none⟩) (by simpa [Addr.add] using h1), fun j hj => ?_⟩
  have := hc j (by omega)
  rw [add_plain] at this
  rw [this, List.getD_eq_getElem?_getD, List.getElem?_map, List.getElem?_range hj]
  rfl
theorem bools_of_trod {n : Nat} {v : Value} {y : DataW H × List MemPlace} (h : DataW.trod enc Try.prog w base (fun _ => true) held n 54 [v] = some y) :
    ∃ al cl L, v = .slice al (List.length L) cl ∧ L.length ≤ cl ∧ cl ≤ maxLen ∧ Bools w (fun _ => False) al L := by
  rcases open_bools Try.underlying54 Try.underlying4 (by kernel_rfl) h with ⟨hcs, _⟩ | ⟨x, l, c, B, hcs, _, hl, hm, _, hcell⟩
  · injection hcs with hcs
    exact ⟨none, 0, [], hcs, by simp, by unfold maxLen; omega, fun h => by simp at h⟩
  · injection hcs with hcs
    exact ⟨some x, c, (List.range l).map B, by simpa using hcs, by simpa using hl, hm, bools_of_cells hl hcell⟩
theorem open_S54 {r : Reach} {b0 : Nat} {v : Value} {d : DataW H} {p : List MemPlace} (hv : Value.okWide Try.prog w r b0 54 v) (h : DataW.Trod enc Try.prog w base (fun _ => true) held 54 v d p) : ∃ (a : Option Addr) (len cap : Nat), v = .slice a len cap ∧ IsBools w a len cap := by
  obtain ⟨a, len, cap, rfl⟩ := okWide_slice Try.underlying54 hv
  refine ⟨a, len, cap, rfl, ?_⟩
  obtain ⟨fuel, hf⟩ := h
  obtain ⟨al, cl, L, e, h1, h2, h3⟩ := bools_of_trod hf
  injection e with e1 e2 e3
  subst e1 e2 e3
  exact ⟨L, rfl, h1, h2, h3⟩
end
theorem run_make_rowN {P : Program} (t e : TypeId) (i : TypeInfo) (z : Value) (ht : P.underlying t = some (.slice e)) (hi : P.info? e = some i) (hz : i.zero = some z)
    (kl kc : IntKind) (n c : Nat) (hnc : n ≤ c) (hbytes : i.bytes * c ≤ 281474976710656) (h63 : c ≤ 9223372036854775807) (w : World) :
    (Instr.makeSlice t (.int kl (n : Int)) (.int kc (c : Int))).run P w = .ok (.slice (some ⟨w.heap.size, 0, none⟩) n c) (w.alloc (.cells (madeCells z.cells (c * i.size)) e)) := by
  have hb : (i.bytes : Int) * (c : Int) ≤ 281474976710656 := by
    have h : ((i.bytes * c : Nat) : Int) ≤ 281474976710656 := by omega
    rwa [Int.natCast_mul] at h
  have hr := run_make (P := P) w t e i z ht hi hz kl kc n c (by omega) (by omega) hb (by omega)
  simp only [Int.toNat_natCast] at hr
  exact hr
/-- The cells of a list of bools. -/
def cellsB (L : List Bool) : Array Value := (L.map Value.bool).toArray
theorem made_false (n : Nat) : madeCells #[.bool false] n = cellsB (List.replicate n false) := by
  apply Array.ext
  · simp [madeCells, cellsB]
  · intro i h1 h2
    simp [madeCells, Nat.mod_one, cellsB]
theorem bool_info : ∃ i, Try.prog.info? 4 = some i ∧ i.zero = some (.bool false) ∧ i.size = 1 ∧ i.bytes = 1 := by
  have h : (Try.prog.info? 4).map (fun i => (i.zero, i.size, i.bytes)) = some (some (.bool false), 1, 1) := by kernel_rfl
  cases hi : Try.prog.info? 4 with
  | none => rw [hi] at h; cases h
  | some i =>
    rw [hi] at h
    simp at h
    exact ⟨i, rfl, h.1, h.2.1, h.2.2⟩
theorem run_make_bools (n : Nat) (hn : n ≤ 100000) (w : World) :
    (Instr.makeSlice 54 (.int .i64 (n : Int)) (.int .i64 (n : Int))).run Try.prog w = .ok (.slice (some ⟨w.heap.size, 0, none⟩) n n) (w.alloc (.cells (cellsB (List.replicate n false)) 4)) := by
  obtain ⟨i, hi, hz, hs, hby⟩ := bool_info
  have hmk := run_make_rowN (P := Try.prog) 54 4 i _ Try.underlying54 hi hz .i64 .i64 n n (Nat.le_refl _) (by rw [hby]; omega) (by omega) w
  rw [hs, Nat.mul_one] at hmk
  have hz' : (Value.bool false).cells = #[.bool false] := rfl
  rw [hz', made_false] at hmk
  exact hmk
theorem cellsB_at {L : List Bool} {i : Nat} (hi : i < L.length) : (cellsB L)[i]? = some (.bool (L.getD i false)) := by
  rw [cellsB, List.getElem?_toArray, List.getElem?_map, List.getD_eq_getElem?_getD, List.getElem?_eq_getElem hi]
  rfl
theorem cellsB_set (L : List Bool) (i : Nat) (b : Bool) : (cellsB L).setIfInBounds i (.bool b) = cellsB (L.set i b) := by
  simp [cellsB, List.map_set]
/-- Block g is the list L of bools. -/
def BlkB (w : World) (g : Nat) (L : List Bool) : Prop := Blk w g 4 (cellsB L)
theorem BlkB.cell {w : World} {g : Nat} {L : List Bool} (h : BlkB w g L) {i : Nat} (hi : i < L.length) : w.cell? ⟨g, i, none⟩ = some (.bool (L.getD i false)) := (Blk.cell h i).trans (cellsB_at hi)
theorem BlkB.frozen {w : World} {g : Nat} {L : List Bool} (h : BlkB w g L) (i : Nat) : w.frozen? ⟨g, i, none⟩ = false := Blk.frozen h i
theorem BlkB.set {w : World} {g : Nat} {L : List Bool} (h : BlkB w g L) (i : Nat) (b : Bool) : BlkB (w.setCell ⟨g, i, none⟩ (.bool b)) g (L.set i b) := by
  have := Blk.set_ h i (.bool b)
  rw [cellsB_set] at this
  exact this
theorem BlkB.bools {w : World} {g : Nat} {L : List Bool} {S : Nat → Prop} (h : BlkB w g L) (hS : ¬ S g) : Bools w S (some ⟨g, 0, none⟩) L := Bools.of_blk h hS
end Go.Proofs.Ytjleklhajmhekaa
