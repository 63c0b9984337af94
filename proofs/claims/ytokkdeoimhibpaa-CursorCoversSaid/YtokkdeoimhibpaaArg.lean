/- The laws' arguments: slices of bools, slices of rounds; few. -/
import Derived.Test.YtokkdeoimhibpaaSweep
import Derived.Test.YtokkdeoimhibpaaSlices
import Derived.Test.YtokkdeoimhibpaaStructs
import Derived.Deep.Grids
import Derived.Deep.MidRow
namespace Go.Proofs.Ytokkdeoimhibpaa
open Go Go.ChangeShapes Go.WideShapes Go.RowKit Go.Deep
set_option linter.unusedVariables false
set_option linter.unusedSimpArgs false

/-- A slice of bools that came in. -/
def IsBools (w : World) (a : Option Addr) (len cap : Nat) : Prop := ∃ L : List Bool, L.length = len ∧ len ≤ cap ∧ cap ≤ maxLen ∧ Bools w (fun _ => False) a L
/-- A round's value. -/
structure Rnd where
  al : Option Addr
  cl : Nat
  L : List Bool
  v : Int
  p : Int
instance : Inhabited Rnd := ⟨⟨none, 0, [], 0, 0⟩⟩
def rowR (r : Rnd) : List Value := [.slice r.al r.L.length r.cl, .int .i64 r.v, .int .i64 r.p]
def cellsR (r : Rnd) : Array Value := (rowR r).toArray
def RoundsAt (w : World) (a : Option Addr) (len : Nat) (R : Nat → Rnd) : Prop :=
  0 < len → ∃ b off, a = some ⟨b, off, none⟩ ∧ b < w.heap.size ∧ ∀ i, i < len → w.rangeAt b (off + i * 3) (rowR (R i)) ∧ Bools w (fun _ => False) (R i).al (R i).L ∧ (R i).L.length ≤ 9223372036854775807
/-- A slice of rounds that came in. -/
def IsRounds (w : World) (a : Option Addr) (len cap : Nat) : Prop := len ≤ cap ∧ cap ≤ maxLen ∧ ∃ R, RoundsAt w a len R
theorem infoR : (Try.prog.info? 29).map (·.size) = some 3 := by kernel_rfl
theorem cellsR_one (r : Rnd) : (cellsR r).all (·.oneCell') = true := by
  refine Array.all_eq_true_iff_forall_mem.2 (fun u hu => ?_)
  have hu : u ∈ rowR r := by simpa [cellsR] using hu
  simp only [rowR, List.mem_cons, List.not_mem_nil, or_false] at hu
  rcases hu with rfl | rfl | rfl <;> rfl

section
variable {H : Type} {enc : TypeId × Value → H} {w : World} {base : Nat} {held : Bool}
theorem spot_none {w : World} {x : Addr} {v : Value} (h : w.cell? (x.add 0) = some v) : x.spot = none := by
  have := World.cell?_spot h
  simpa [Addr.add] using this
theorem bools_of_cells {a : Addr} {len cap : Nat} {B : Nat → Bool} (hl : len ≤ cap) (hc : ∀ i, i < cap → w.cell? (a.add i) = some (.bool (B i))) : Bools w (fun _ => False) (some a) ((List.range len).map B) := fun h0 => by
  simp only [List.length_map, List.length_range] at h0 ⊢
  obtain ⟨b, off, spot⟩ := a
  have hs : spot = none := spot_none (hc 0 (by omega))
  subst hs
  have h1 := hc 0 (by omega)
  refine ⟨b, off, rfl, fun h => h, cell_lt (p := ⟨b, off, none⟩) (by simpa [Addr.add] using h1), fun j hj => ?_⟩
  have := hc j (by omega)
  rw [add_plain] at this
  rw [this, List.getD_eq_getElem?_getD, List.getElem?_map, List.getElem?_range hj]
  rfl
theorem bools_of_trod {n : Nat} {v : Value} {y : DataW H × List MemPlace} (h : DataW.trod enc Try.prog w base (fun _ => true) held n 27 [v] = some y) :
    ∃ al cl L, v = .slice al (List.length L) cl ∧ L.length ≤ cl ∧ cl ≤ maxLen ∧ Bools w (fun _ => False) al L := by
  rcases open_bools Try.underlying27 Try.underlying4 (by kernel_rfl) h with ⟨hcs, _⟩ | ⟨x, l, c, B, hcs, _, hl, hm, _, hcell⟩
  · injection hcs with hcs
    exact ⟨none, 0, [], hcs, by simp, by unfold maxLen; omega, fun h => by simp at h⟩
  · injection hcs with hcs
    exact ⟨some x, c, (List.range l).map B, by simpa using hcs, by simpa using hl, hm, bools_of_cells hl hcell⟩
theorem open_S27 {r : Reach} {b0 : Nat} {v : Value} {d : DataW H} {p : List MemPlace} (hv : Value.okWide Try.prog w r b0 27 v) (h : DataW.Trod enc Try.prog w base (fun _ => true) held 27 v d p) : ∃ (a : Option Addr) (len cap : Nat), v = .slice a len cap ∧ IsBools w a len cap := by
  obtain ⟨a, len, cap, rfl⟩ := okWide_slice Try.underlying27 hv
  refine ⟨a, len, cap, rfl, ?_⟩
  obtain ⟨fuel, hf⟩ := h
  obtain ⟨al, cl, L, e, h1, h2, h3⟩ := bools_of_trod hf
  injection e with e1 e2 e3
  subst e1 e2 e3
  exact ⟨L, rfl, h1, h2, h3⟩
theorem open_S22 {r : Reach} {b0 : Nat} {v : Value} {d : DataW H} {p : List MemPlace} (hv : Value.okWide Try.prog w r b0 22 v) (h : DataW.Trod enc Try.prog w base (fun _ => true) held 22 v d p) : ∃ (a : Option Addr) (len cap : Nat), v = .slice a len cap ∧ IsRounds w a len cap := by
  obtain ⟨a, len, cap, rfl⟩ := okWide_slice Try.underlying22 hv
  refine ⟨a, len, cap, rfl, ?_⟩
  obtain ⟨fuel, hf⟩ := h
  rcases open_slice_cells Try.underlying22 Try.underlying29 (by kernel_rfl) (by kernel_rfl) hf with hcs | ⟨x, l, c, hcs, hl, hm, hi⟩
  · simp [Value.cells] at hcs
    obtain ⟨rfl, rfl, rfl⟩ := hcs
    exact ⟨by omega, by unfold maxLen; omega, fun _ => default, fun h0 => by omega⟩
  · simp [Value.cells] at hcs
    obtain ⟨rfl, rfl, rfl⟩ := hcs
    obtain ⟨b, off, spot⟩ := x
    have H2 : ∀ i, i < len → ∃ R : Rnd, (∀ j u, (rowR R)[j]? = some u → w.cell? ((⟨b, off, spot⟩ : Addr).add (i * 3 + j)) = some u) ∧ Bools w (fun _ => False) R.al R.L ∧ R.L.length ≤ 9223372036854775807 := fun i hi' => by
      obtain ⟨_, v0, _, hc0, ht0⟩ := hi i hi' 0 _ rfl
      obtain ⟨_, v1, _, hc1, ht1⟩ := hi i hi' 1 _ rfl
      obtain ⟨_, v2, _, hc2, ht2⟩ := hi i hi' 2 _ rfl
      obtain ⟨k1, e1, _, _⟩ := DataW.trod_int Try.underlying3 ht1
      obtain ⟨k2, e2, _, _⟩ := DataW.trod_int Try.underlying3 ht2
      obtain ⟨al, cl, L, e0, q1, q2, hr⟩ := bools_of_trod ht0
      injection e1 with e1
      injection e2 with e2
      subst e0 e1 e2
      refine ⟨⟨al, cl, L, k1, k2⟩, fun j u hu => ?_, hr, by unfold maxLen at q2; show L.length ≤ _; omega⟩
      match j, hu with
      | 0, hu => simp [rowR] at hu; subst hu; exact hc0
      | 1, hu => simp [rowR] at hu; subst hu; exact hc1
      | 2, hu => simp [rowR] at hu; subst hu; exact hc2
      | j + 3, hu => simp [rowR] at hu
    obtain ⟨R, hR⟩ := choose_lt H2
    refine ⟨hl, hm, R, fun h0 => ?_⟩
    have hc0 := (hR 0 h0).1 0 _ rfl
    have hs : spot = none := spot_none (by simpa using hc0)
    subst hs
    refine ⟨b, off, rfl, by have := cell_lt hc0; rwa [add_plain] at this, fun i hi' => ?_⟩
    obtain ⟨h1, h2, h3⟩ := hR i hi'
    refine ⟨fun j u hu => ?_, h2, h3⟩
    have := h1 j u hu
    rw [add_plain] at this
    rw [Nat.add_assoc]
    exact this
end
/-- A round is read out of a row. -/
theorem wpList_load_rnd {P : Program} {ops : Array Oper} {rest : List Oper} {op : Oper} {a : Act} {w : World} {Q : Exit → Act → World → Prop} (hgd : op.guard = none) (ty : TypeId) (x : Operand) (ho : op.op = .load ty x)
    (b o : Nat) (hx : a.eval x = .pointer (some ⟨b, o, none⟩)) (v : Rnd) (d : TypeDesc) (hc : w.rangeAt b o (rowR v))
    (hu : P.underlying ty = some d) (hd : d.isRow = true) (hi : (P.info? ty).map (·.size) = some 3)
    (h : wpList P ops Q rest (a.put op.dst (.agg (cellsR v))) w) : wpList P ops Q (op :: rest) a w :=
  wpList_load_mid hgd ty x ho b o hx (rowR v) d hc hu hd hi h
/-- One round, where the law's loop stands. -/
theorem RoundsAt.at {w wr : World} {a : Option Addr} {len k : Nat} {R : Nat → Rnd} (h : RoundsAt w a len R) (hr : Below w.heap.size w wr) (hk : k < len) :
    ∃ b off, a = some ⟨b, off, none⟩ ∧ b < w.heap.size ∧ Hid (wr.rangeAt b (off + k * 3) (rowR (R k))) ∧ Hid (Bools wr (fun i => w.heap.size ≤ i) (R k).al (R k).L) ∧ (R k).L.length ≤ 9223372036854775807 := by
  obtain ⟨b, off, rfl, hbl, hc⟩ := h (by omega)
  obtain ⟨h1, h2, h3⟩ := hc k hk
  exact ⟨b, off, rfl, hbl, Lib.hid (fun j u hu => (hr.cell (p := ⟨b, off + k * 3 + j, none⟩) hbl).trans (h1 j u hu)), Lib.hid ((h2.other (fun i hi hle => by omega)).below hr), h3⟩

/-- What few says. -/
def FewPost (w : World) (len : Nat) (R : Nat → Rnd) (e : Ending) (w' : World) : Prop := ∃ r : Bool, e = .returned (.bool r) ∧ (r = true → len ≤ 40 ∧ ∀ i, i < len → (R i).L.length ≤ 100) ∧ Below w.heap.size w w'
set_option maxHeartbeats 800000 in
theorem few_any (a : Option Addr) (len cap : Nat) (R : Nat → Rnd) (w : World) (h : RoundsAt w a len R) (hl : len ≤ 9223372036854775807) : Calls Try.prog 10 #[.slice a len cap] w (FewPost w len R) := by
  have H := Lib.hid h
  clear h
  by_cases hb : (40 : Int) < (len : Int)
  · go_enter Try.func10, Try.ntmps10
    go_wp2
    go_ret
    exact ⟨false, rfl, (fun h => by cases h), Below.refl _ _⟩
  · go_enter Try.func10, Try.ntmps10
    go_wp2
    go_loopw [10] (fun s10 wr => ∃ k : Nat, k ≤ len ∧ s10 = .int .i64 k ∧ Below w.heap.size w wr ∧ Hid (∀ i, i < k → (R i).L.length ≤ 100)) (fun s10 _ => len - (intOf s10).toNat)
    case atStart => exact ⟨0, by omega, rfl, Below.refl _ _, Lib.hid (fun i hi => by omega)⟩
    case round =>
      obtain ⟨k, hk, rfl, B, HF⟩ := hrel
      by_cases hkl : k < len
      · obtain ⟨b, off, rfl, hbl, hx, _, hll⟩ := H.out.at B hkl
        obtain ⟨r, hr⟩ : ∃ r, R k = r := ⟨_, rfl⟩
        rw [hr] at hx hll
        have HR := Lib.hid hr
        clear hr
        obtain ⟨al, cl, L, v, p⟩ := r
        have x0 := hx.out 0 _ rfl
        have x1 := hx.out 1 _ rfl
        have x2 := hx.out 2 _ rfl
        simp only [Nat.add_zero] at x0 x1 x2
        dsimp only at hll x0 x1 x2
        obtain ⟨n, hn⟩ : ∃ n, L.length = n := ⟨_, rfl⟩
        rw [hn] at hll x0
        have HN := Lib.hid hn
        clear hx hn
        by_cases h100 : (100 : Int) < (n : Int)
        · go_wp2
          go_ret
          exact ⟨false, rfl, (fun h => by cases h), B.alloc B.size _⟩
        · go_wp2
          go_roundw
          case rel =>
            refine ⟨k + 1, by omega, by go_num, B.alloc B.size _, Lib.hid (fun i hi => ?_)⟩
            by_cases hik : i = k
            · subst hik
              rw [HR.out]
              show L.length ≤ 100
              rw [HN.out]
              omega
            · exact HF.out i (by omega)
          case measure => simp [intOf]; omega
      · obtain rfl : k = len := by omega
        go_wp2
        go_ret
        exact ⟨true, rfl, fun _ => ⟨by omega, HF.out⟩, B⟩
end Go.Proofs.Ytokkdeoimhibpaa
