/- A law's box of a configuration; two equal rows of bools. -/
import Derived.Test.YtnaheindlkehhaaLaw
import Derived.Test.YtnaheindlkehhaaRStep
import Derived.Test.YtnaheindlkehhaaSameV
namespace Go.Proofs.Ytnaheindlkehhaa
open Go Go.RowKit Go.Deep
set_option linter.unusedVariables false
set_option linter.unusedSimpArgs false
set_option maxRecDepth 100000

def OneC (w W : World) (c : Nat → Int) : Prop := Blk W w.heap.size 26 (cellsOf c) ∧ Below w.heap.size w W
theorem OneC.new (w : World) (c : Nat → Int) : OneC w (w.alloc (.cells (cellsOf c) 26)) c := ⟨Blk.new _ _ _, (Below.refl _ _).alloc (Nat.le_refl _) _⟩
theorem OneC.next {w W W' : World} {c : Nat → Int} (h : OneC w W c) (hb : Below W.heap.size W W') : OneC w W' c := ⟨h.1.below hb h.1.lt, h.2.trans (hb.mono h.2.size)⟩
/-- A slice of bools that reads as L. -/
def Bl (w : World) (a : Option Addr) (L : List Bool) : Prop := 0 < L.length → ∃ b off, a = some ⟨b, off, none⟩ ∧ b < w.heap.size ∧ ∀ j, j < L.length → w.cell? ⟨b, off + j, none⟩ = some (.bool (L.getD j false))
theorem Bl.below {w w' : World} {a : Option Addr} {L : List Bool} (h : Bl w a L) (hb : Below w.heap.size w w') : Bl w' a L := fun h0 => by
  obtain ⟨b, off, e, hl, hc⟩ := h h0
  exact ⟨b, off, e, Nat.lt_of_lt_of_le hl hb.size, fun j hj => (hb.cell (p := ⟨b, off + j, none⟩) hl).trans (hc j hj)⟩
theorem Bl.of_blk {w : World} {g : Nat} {L : List Bool} (h : BlkB w g L) : Bl w (some ⟨g, 0, none⟩) L := fun h0 => ⟨g, 0, rfl, Blk.lt h, fun j hj => by rw [Nat.zero_add]; exact h.cell hj⟩
theorem Bl.of_owns {w : World} {base n : Nat} {v : Value} {L : List Bool} (h : w.ownsRow base 4 1 v n (boolsOf L)) (hn : L.length = n) : ∃ a cp, v = .slice a n cp ∧ Bl w a L := by
  rcases h.2 with ⟨rfl, rfl⟩ | ⟨g, cp, cur, rfl, h1, h2, _⟩
  · exact ⟨none, 0, rfl, fun h0 => by omega⟩
  · refine ⟨_, cp, rfl, fun h0 => ⟨g, 0, rfl, (Array.getElem?_eq_some_iff.1 h2).1, fun j hj => ?_⟩⟩
    have := h.cells (g := g) rfl j (.bool (L.getD j false)) (by
      rw [boolsOf, List.getElem?_map, List.getD_eq_getElem?_getD, List.getElem?_eq_getElem hj]
      rfl)
    rwa [add_plain] at this
theorem equal_bools (a1 a2 : Option Addr) (c1 c2 n : Nat) (L : List Bool) (w : World) (h1 : Bl w a1 L) (h2 : Bl w a2 L) (hn : L.length = n) (hb : n ≤ 100000) :
    Calls Try.prog 20 #[.slice a1 n c1, .slice a2 n c2] w fun e w' => e = .returned (.bool true) ∧ ∃ q, w' = w.drewN q := by
  have H1 := Lib.hid h1
  have H2 := Lib.hid h2
  have HN := Lib.hid hn
  clear h1 h2 hn
  go_enter Try.func20, Try.ntmps20
  go_wp2
  go_loopw [13] (fun s13 wr => ∃ (k q : Nat), k ≤ n ∧ s13 = .int .i64 k ∧ wr = w.drewN q) (fun s13 _ => n - (intOf s13).toNat)
  case atStart => exact ⟨0, 0, by omega, rfl, rfl⟩
  case round =>
    obtain ⟨k, q, hk, rfl, rfl⟩ := hrel
    by_cases hlt : k < n
    · obtain ⟨b1, o1, rfl, l1, x1⟩ := H1.out (by rw [HN.out]; omega)
      obtain ⟨b2, o2, rfl, l2, x2⟩ := H2.out (by rw [HN.out]; omega)
      have x1 := Lib.hid (x1 k (by rw [HN.out]; exact hlt))
      have x2 := Lib.hid (x2 k (by rw [HN.out]; exact hlt))
      obtain ⟨v, hv⟩ : ∃ v, L.getD k false = v := ⟨_, rfl⟩
      rw [hv] at x1 x2
      have y1 := x1.out
      have y2 := x2.out
      have hvv : (v != v) = false := by simp
      clear hv l1 l2 x1 x2
      go_wp2
      go_quiet (fail)
      go_wp2
      go_roundw
      case rel => exact ⟨k + 1, _, by omega, by go_num, rfl⟩
      case measure => simp [intOf]; omega
    · obtain rfl : k = n := by omega
      clear hlt
      have hlt : ¬ k < k := by omega
      go_wp2
      go_ret
      exact ⟨rfl, q, rfl⟩
/-- Block g is a row whose elements have balances. -/
def Bals (w : World) (g n : Nat) : Prop := ∃ cur, Blk w g 24 cur ∧ ∀ i, i < n → ∃ x, cur[i * 7]? = some (.int .u64 x)
theorem Bals.set {w : World} {g n : Nat} (h : Bals w g n) (i : Nat) (y : Int) : Bals (w.setCell ⟨g, i * 7, none⟩ (.int .u64 y)) g n := by
  obtain ⟨cur, hb, hc⟩ := h
  refine ⟨_, hb.set_ (i * 7) _, fun j hj => ?_⟩
  obtain ⟨x, hx⟩ := hc j hj
  by_cases e : j = i
  · subst e
    refine ⟨y, ?_⟩
    rw [Array.getElem?_setIfInBounds_self]
    have := (Array.getElem?_eq_some_iff.1 hx).1
    simp [this]
  · refine ⟨x, ?_⟩
    rw [Array.getElem?_setIfInBounds_ne (by omega)]
    exact hx
theorem Bals.at {w : World} {g n : Nat} (h : Bals w g n) {i : Nat} (hi : i < n) : ∃ x, w.cell? ⟨g, i * 7, none⟩ = some (.int .u64 x) ∧ w.frozen? ⟨g, i * 7, none⟩ = false := by
  obtain ⟨cur, hb, hc⟩ := h
  obtain ⟨x, hx⟩ := hc i hi
  exact ⟨x, (hb.cell _).trans hx, hb.frozen _⟩
theorem Bals.below {w w' : World} {g n : Nat} (h : Bals w g n) (hb : Below w.heap.size w w') : Bals w' g n := by
  obtain ⟨cur, h1, h2⟩ := h
  exact ⟨cur, h1.below hb h1.lt, h2⟩
theorem Bals.of_owns {w : World} {base n g cp : Nat} {l : List Val} (h : w.ownsRow base 24 7 (.slice (some ⟨g, 0, none⟩) n cp) n (flat l)) (hl : l.length = n) : Bals w g n := by
  rcases h.2 with ⟨e, _⟩ | ⟨g', cp', cur, e, h1, h2, h3, h4, h5, h6⟩
  · cases e
  · injection e with e _ _
    injection e with e
    injection e with e
    subst e
    refine ⟨cur, h2, fun i hi => ?_⟩
    obtain ⟨v, hv⟩ : ∃ v, l[i]? = some v := ⟨_, List.getElem?_eq_getElem (by omega)⟩
    refine ⟨v.bal, ?_⟩
    have e1 := flat_at hv (j := 0) (by omega)
    rw [Nat.add_zero] at e1
    rw [← h6, List.getElem?_take] at e1
    have hlt : i * 7 < n * 7 := by omega
    rw [if_pos hlt, Array.getElem?_toList] at e1
    exact e1
end Go.Proofs.Ytnaheindlkehhaa
