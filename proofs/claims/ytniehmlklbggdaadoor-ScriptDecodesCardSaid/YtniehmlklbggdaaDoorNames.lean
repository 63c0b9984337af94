/- The names of the kinds: the package variable, Name, Kind; the reference's Names; slices.Index on them; slices.Equal on bytes. -/
import Derived.Test.YtniehmlklbggdaaDoorRead
import Derived.Test.YtniehmlklbggdaaDoorStrTab
import Derived.Test.YtniehmlklbggdaaDoorRows
namespace Go.Proofs.YtniehmlklbggdaaDoor
open Go Go.RowKit Go.Maps Go.ChangeShapes Go.WideShapes
set_option linter.unusedVariables false
set_option linter.unusedSimpArgs false
set_option maxRecDepth 100000

/-- deposit, exit, eject, slash, consolidate, partial, tick -/
def nmL : List ByteArray := [⟨#[100, 101, 112, 111, 115, 105, 116]⟩, ⟨#[101, 120, 105, 116]⟩, ⟨#[101, 106, 101, 99, 116]⟩, ⟨#[115, 108, 97, 115, 104]⟩, ⟨#[99, 111, 110, 115, 111, 108, 105, 100, 97, 116, 101]⟩, ⟨#[112, 97, 114, 116, 105, 97, 108]⟩, ⟨#[116, 105, 99, 107]⟩]
def nm (k : Nat) : ByteArray := nmL.getD k ByteArray.empty
def nmC : Array Value := (nmL.map Value.string).toArray
/-- The package variable's block. -/
def NamesAt (w : World) : Prop := ∃ t fr, w.heap[0]? = some (.cells nmC t fr)

theorem NamesAt.lt {w : World} (h : NamesAt w) : 0 < w.heap.size := by
  obtain ⟨t, fr, h⟩ := h
  exact (Array.getElem?_eq_some_iff.1 h).1
theorem NamesAt.below {w w' : World} (h : NamesAt w) (hb : Below w.heap.size w w') : NamesAt w' := by
  have hl := h.lt
  obtain ⟨t, fr, h⟩ := h
  exact ⟨t, fr, (hb.block _ hl).trans h⟩
theorem NamesAt.cell {w : World} (h : NamesAt w) (k : Nat) (hk : k < 7) : w.cell? ⟨0, k, none⟩ = some (.string (nm k)) := by
  obtain ⟨t, fr, h⟩ := h
  simp only [World.cell?, h]
  obtain rfl | rfl | rfl | rfl | rfl | rfl | rfl : k = 0 ∨ k = 1 ∨ k = 2 ∨ k = 3 ∨ k = 4 ∨ k = 5 ∨ k = 6 := by omega
  all_goals rfl
theorem nm_inj : ∀ k, k < 7 → ∀ j, j < 7 → nm k = nm j → k = j := by decide
theorem nm_cases (s : ByteArray) : (∃ k, k < 7 ∧ s = nm k) ∨ ∀ k, k < 7 → nm k ≠ s := by
  rcases Classical.em (∃ k, k < 7 ∧ s = nm k) with h | h
  · exact .inl h
  · exact .inr fun k hk e => h ⟨k, hk, e.symm⟩
theorem nm_ne_empty : ∀ k, k < 7 → (nm k).size ≠ 0 := by decide

theorem name_yes (k : Nat) (hk : k < 7) (w : World) (h : NamesAt w) : Calls Tryd.prog 31 #[.int .i64 ((k : Int) + 1)] w fun e w' => e = .returned (.string (nm k)) ∧ w = w' := by
  have hc := h.cell k hk
  clear h
  have h1 : ((k : Int) + 1 < 1) = False := by simp; omega
  go_enter Tryd.func31, Tryd.ntmps31
  go_wp2
  go_ret
  exact ⟨rfl, rfl⟩
theorem name_no (s : Int) (hs : s < 1 ∨ 7 < s) (w : World) : Calls Tryd.prog 31 #[.int .i64 s] w fun e w' => e = .returned (.string ⟨#[]⟩) ∧ w = w' := by
  rcases hs with h | h
  · go_enter Tryd.func31, Tryd.ntmps31
    go_wp2
    go_ret
    exact ⟨rfl, rfl⟩
  · have h' : ¬ s < 1 := by omega
    go_enter Tryd.func31, Tryd.ntmps31
    go_wp2
    go_ret
    exact ⟨rfl, rfl⟩
theorem refnames_any (w : World) : Calls Tryd.prog 39 #[] w fun e w' => ∃ b, e = .returned (.slice (some ⟨b, 0, none⟩) 7 7) ∧ w.heap.size ≤ b ∧ Blk w' b 9 nmC ∧ Below w.heap.size w w' := by
  go_enter Tryd.func39, Tryd.ntmps39
  go_wp2
  go_ret
  exact ⟨_, rfl, Nat.le_refl _, Blk.new w _ _, (Below.refl _ _).alloc (Nat.le_refl _) _⟩
theorem index_nm (k : Nat) (hk : k < 7) (w : World) : (Instr.index 90 (.agg nmC) (.int .i64 (k : Int))).run Tryd.prog w = .ok (.string (nm k)) w := by
  obtain rfl | rfl | rfl | rfl | rfl | rfl | rfl : k = 0 ∨ k = 1 ∨ k = 2 ∨ k = 3 ∨ k = 4 ∨ k = 5 ∨ k = 6 := by omega
  all_goals kernel_rfl
theorem str_ne {a b : ByteArray} (h : a ≠ b) : (a.toList == b.toList) = false := by
  rw [ByteArray.toList_eq, ByteArray.toList_eq, beq_eq_false_iff_ne]
  exact fun e => h (WideShapes.bytes_inj e)
theorem str_eq (a : ByteArray) : (a.toList == a.toList) = true := beq_self_eq_true _
theorem kind_yes (j : Nat) (hj : j < 7) (w : World) (h : NamesAt w) : Calls Tryd.prog 36 #[.string (nm j)] w fun e w' => e = .returned (.tuple #[.int .i64 ((j : Int) + 1), .bool true]) ∧ w = w' := by
  obtain ⟨t, fr, h⟩ := h
  have H := Lib.hid h
  have HI : Hid (∀ k : Nat, k < 7 → ∀ w : World, (Instr.index 90 (.agg nmC) (.int .i64 (k : Int))).run Tryd.prog w = .ok (.string (nm k)) w) := Lib.hid index_nm
  clear h
  generalize nmC = cs at *
  go_enter Tryd.func36, Tryd.ntmps36
  go_wp2_with (refine wpList_load_row rfl 90 _ rfl 0 rfl t cs fr _ H.out Tryd.underlying90 rfl (by kernel_rfl) ?_)
  go_loop [7] (fun i => ∃ k : Nat, k ≤ j ∧ i = .int .i64 k) (fun i => 7 - (intOf i).toNat)
  case atStart => exact ⟨0, by omega, rfl⟩
  case round =>
    obtain ⟨k, hk, rfl⟩ := hrel
    have hx := HI.out k (by omega)
    by_cases hkj : k = j
    · subst hkj
      clear hk
      generalize nm k = s at *
      go_wp2
      go_ret2
      exact ⟨by rw [Int.add_comm]; rfl, rfl⟩
    · have hne := str_ne fun e => hkj (nm_inj k (by omega) j hj e)
      go_wp2
      go_round
      case rel => exact ⟨k + 1, by omega, by go_num⟩
      case measure => simp [intOf]; omega
theorem kind_no (s : ByteArray) (hs : ∀ k, k < 7 → nm k ≠ s) (w : World) (h : NamesAt w) : Calls Tryd.prog 36 #[.string s] w fun e w' => e = .returned (.tuple #[.int .i64 0, .bool false]) ∧ w = w' := by
  obtain ⟨t, fr, h⟩ := h
  have H := Lib.hid h
  have HI : Hid (∀ k : Nat, k < 7 → ∀ w : World, (Instr.index 90 (.agg nmC) (.int .i64 (k : Int))).run Tryd.prog w = .ok (.string (nm k)) w) := Lib.hid index_nm
  have HS := Lib.hid hs
  clear h hs
  generalize nmC = cs at *
  go_enter Tryd.func36, Tryd.ntmps36
  go_wp2_with (refine wpList_load_row rfl 90 _ rfl 0 rfl t cs fr _ H.out Tryd.underlying90 rfl (by kernel_rfl) ?_)
  go_loop [7] (fun i => ∃ k : Nat, k ≤ 7 ∧ i = .int .i64 k) (fun i => 7 - (intOf i).toNat)
  case atStart => exact ⟨0, by omega, rfl⟩
  case round =>
    obtain ⟨k, hk, rfl⟩ := hrel
    by_cases hlt : k < 7
    · have hx := HI.out k hlt
      have hne := str_ne (HS.out k hlt)
      go_wp2
      go_round
      case rel => exact ⟨k + 1, by omega, by go_num⟩
      case measure => simp [intOf]; omega
    · obtain rfl : k = 7 := by omega
      clear hlt
      go_wp2
      go_ret2
      exact ⟨rfl, rfl⟩
/-- The number of a name, or 0. -/
def posN (s : ByteArray) : Nat := if nm 0 = s then 1 else if nm 1 = s then 2 else if nm 2 = s then 3 else if nm 3 = s then 4 else if nm 4 = s then 5 else if nm 5 = s then 6 else if nm 6 = s then 7 else 0
theorem posN_nm : ∀ j, j < 7 → posN (nm j) = j + 1 := by decide
theorem posN_no {s : ByteArray} (h : ∀ k, k < 7 → nm k ≠ s) : posN s = 0 := by
  unfold posN
  rw [if_neg (h 0 (by omega)), if_neg (h 1 (by omega)), if_neg (h 2 (by omega)), if_neg (h 3 (by omega)), if_neg (h 4 (by omega)), if_neg (h 5 (by omega)), if_neg (h 6 (by omega))]
theorem posN_iff (s : ByteArray) : posN s ≤ 7 ∧ ∀ k, k < 7 → (nm k = s ↔ posN s = k + 1) := by
  rcases nm_cases s with ⟨j, hj, rfl⟩ | h
  · rw [posN_nm j hj]
    exact ⟨by omega, fun k hk => ⟨fun e => by rw [nm_inj k hk j hj e], fun e => by rw [show k = j by omega]⟩⟩
  · rw [posN_no h]
    exact ⟨by omega, fun k hk => ⟨fun e => absurd e (h k hk), fun e => by omega⟩⟩
theorem kind_any (s : ByteArray) (w : World) (h : NamesAt w) : Calls Tryd.prog 36 #[.string s] w fun e w' => e = .returned (.tuple #[.int .i64 (posN s : Nat), .bool (posN s != 0)]) ∧ w = w' := by
  rcases nm_cases s with ⟨j, hj, rfl⟩ | hn
  · refine (kind_yes j hj w h).mono ?_
    rintro e w' ⟨rfl, rfl⟩
    rw [posN_nm j hj]
    exact ⟨by simp, rfl⟩
  · refine (kind_no s hn w h).mono ?_
    rintro e w' ⟨rfl, rfl⟩
    rw [posN_no hn]
    exact ⟨rfl, rfl⟩

theorem nmC_at (k : Nat) (hk : k < 7) : nmC[k]? = some (.string (nm k)) := by
  obtain rfl | rfl | rfl | rfl | rfl | rfl | rfl : k = 0 ∨ k = 1 ∨ k = 2 ∨ k = 3 ∨ k = 4 ∨ k = 5 ∨ k = 6 := by omega
  all_goals rfl
/-- slices.Equal on two slices of bytes that read alike. -/
theorem equal_bytes (a1 a2 : Option Addr) (c1 c2 n : Nat) (L : List Int) (w : World) (S1 S2 : Nat → Prop) (h1 : Bys w S1 a1 L) (h2 : Bys w S2 a2 L) (hn : L.length = n) (hb : n ≤ 100000) :
    Calls Tryd.prog 15 #[.slice a1 n c1, .slice a2 n c2] w fun e w' => e = .returned (.bool true) ∧ ∃ q, w' = w.drewN q := by
  have H1 := Lib.hid h1
  have H2 := Lib.hid h2
  have HN := Lib.hid hn
  clear h1 h2 hn
  go_enter Tryd.func15, Tryd.ntmps15
  go_wp2
  go_loopw [13] (fun s13 wr => ∃ (k q : Nat), k ≤ n ∧ s13 = .int .i64 k ∧ wr = w.drewN q) (fun s13 _ => n - (intOf s13).toNat)
  case atStart => exact ⟨0, 0, by omega, rfl, rfl⟩
  case round =>
    obtain ⟨k, q, hk, rfl, rfl⟩ := hrel
    by_cases hlt : k < n
    · obtain ⟨b1, o1, rfl, x1⟩ := H1.out.at_ (j := k) (by rw [HN.out]; exact hlt)
      obtain ⟨b2, o2, rfl, x2⟩ := H2.out.at_ (j := k) (by rw [HN.out]; exact hlt)
      obtain ⟨v, hv⟩ : ∃ v, L.getD k 0 = v := ⟨_, rfl⟩
      rw [hv] at x1 x2
      clear hv
      go_wp2
      go_quiet (fail)
      go_wp2
      go_roundw
      case rel => exact ⟨k + 1, _, by omega, by go_num, rfl⟩
      case measure => simp [intOf]; omega
    · obtain rfl : k = n := by omega
      clear hlt
      have hlt : ¬ k < k := by omega
      go_wp2
      go_ret
      exact ⟨rfl, q, rfl⟩
end Go.Proofs.YtniehmlklbggdaaDoor
