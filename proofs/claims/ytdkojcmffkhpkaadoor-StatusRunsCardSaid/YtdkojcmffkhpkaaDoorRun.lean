/- Run and Parse; the chapter's example. -/
import Derived.Test.YtdkojcmffkhpkaaDoorNames
import Derived.Test.YtdkojcmffkhpkaaDoorRd
namespace Go.Proofs.YtdkojcmffkhpkaaDoor
open Go Go.RowKit Go.Maps
set_option linter.unusedVariables false
set_option linter.unusedSimpArgs false

/-- The status after the events up to the first one that does not apply, and the number of those that were applied. -/
def runS (s : Int) : List Int → Int × Nat
  | [] => (s, 0)
  | e :: r => if refN s e = 0 then (s, 0) else ((runS (refN s e) r).1, (runS (refN s e) r).2 + 1)
theorem refN_bd (s e : Int) : 0 ≤ refN s e ∧ refN s e ≤ 7 := by
  unfold refN
  repeat' split
  all_goals omega
theorem refN_wf (s e : Int) : (Lit.int .i64 (refN s e)).wf = true := WalkArith.wf_i64 (by have := refN_bd s e; omega)
theorem look_no {w : World} {b : Nat} (h : TabAt w b (ents.map entP)) {s e : Int} (hs : (Lit.int .i64 s).wf = true) (he : (Lit.int .i64 e).wf = true) (h0 : refN s e = 0) :
    (Instr.lookup 38 (.map (some b)) (.agg #[.int .i64 s, .int .i64 e]) true).run Tryd.prog w = .ok (.tuple #[.int .i64 0, .bool false]) w := by
  have := look h hs he
  rw [h0] at this
  exact this
theorem look_yes {w : World} {b : Nat} (h : TabAt w b (ents.map entP)) {s e : Int} (hs : (Lit.int .i64 s).wf = true) (he : (Lit.int .i64 e).wf = true) (h0 : refN s e ≠ 0) :
    (Instr.lookup 38 (.map (some b)) (.agg #[.int .i64 s, .int .i64 e]) true).run Tryd.prog w = .ok (.tuple #[.int .i64 (refN s e), .bool true]) w := by
  have := look h hs he
  rw [show (refN s e != 0) = true by simpa using h0] at this
  exact this

set_option maxHeartbeats 800000 in
theorem run_any (s : Int) (a : Option Addr) (len cap : Nat) (z : List Int) (w : World) (hs : (Lit.int .i64 s).wf = true) (hr : Rd .i64 w a len z) (hlen : len ≤ 9223372036854775807) (hz : len ≤ z.length) :
    Calls Tryd.prog 12 #[.int .i64 s, .slice a len cap] w fun e w' => e = .returned (.tuple #[.int .i64 (runS s (z.take len)).1, .int .i64 ((runS s (z.take len)).2 : Nat)]) ∧ Below w.heap.size w w' := by
  have HS := Lib.hid hs
  have HR := Lib.hid hr
  clear hs hr
  generalize hA : runS s (z.take len) = A
  have HA := Lib.hid hA
  clear hA
  go_enter Tryd.func12, Tryd.ntmps12
  go_wp2_with (go_at_call 19; refine (table_any _).mono ?_; rintro x w1 ⟨b, rfl, hT, hb⟩; have HT := Lib.hid hT; have HB := Lib.hid hb; have HR1 := Lib.hid (HR.out.below hb); clear hT hb)
  go_loop [0, 14] (fun t i => ∃ (k : Nat) (sk : Int), k ≤ len ∧ i = .int .i64 k ∧ t = .int .i64 sk ∧ (Lit.int .i64 sk).wf = true ∧ A.1 = (runS sk ((z.take len).drop k)).1 ∧ A.2 = (runS sk ((z.take len).drop k)).2 + k) (fun _ i => len - (intOf i).toNat)
  case atStart => exact ⟨0, s, by omega, rfl, rfl, HS.out, by rw [← HA.out]; rfl, by rw [← HA.out]; rfl⟩
  case round =>
    obtain ⟨k, sk, hk, rfl, rfl, hw, h1, h2⟩ := hrel
    have HW := Lib.hid hw
    have H1 := Lib.hid h1
    have H2 := Lib.hid h2
    clear hw h1 h2
    by_cases hlt : k < len
    · obtain ⟨p, off, rfl, _, hc⟩ := HR1.out (by omega)
      obtain ⟨hcell, hwf⟩ := hc k hlt
      have HC := Lib.hid (take_drop_cons hz hlt)
      clear hc
      generalize z.getD k 0 = e at *
      by_cases h0 : refN sk e = 0
      · have hl := look_no HT.out HW.out hwf h0
        have HE : Hid (A.1 = sk ∧ A.2 = k) := by
          refine Lib.hid ⟨?_, ?_⟩
          · rw [H1.out, HC.out, runS, if_pos h0]
          · rw [H2.out, HC.out, runS, if_pos h0, Nat.zero_add]
        clear h0 hwf
        go_wp2
        go_ret2
        exact ⟨by rw [HE.out.1, HE.out.2]; rfl, HB.out⟩
      · have hl := look_yes HT.out HW.out hwf h0
        have HE : Hid (A.1 = (runS (refN sk e) ((z.take len).drop (k + 1))).1 ∧ A.2 = (runS (refN sk e) ((z.take len).drop (k + 1))).2 + (k + 1)) := by
          refine Lib.hid ⟨?_, ?_⟩
          · rw [H1.out, HC.out, runS, if_neg h0]
          · rw [H2.out, HC.out, runS, if_neg h0]
            simp only
            omega
        have HF := Lib.hid (refN_wf sk e)
        clear h0 hwf
        generalize refN sk e = q at *
        go_wp2
        go_round
        case rel => exact ⟨k + 1, q, by omega, by go_num, rfl, HF.out, HE.out.1, HE.out.2⟩
        case measure => simp [intOf]; omega
    · obtain rfl : k = len := by omega
      clear hlt
      have hlt : ¬ k < k := by omega
      have HE : Hid (A.1 = sk ∧ A.2 = k) := by
        refine Lib.hid ⟨?_, ?_⟩
        · rw [H1.out, take_drop_all, runS]
        · rw [H2.out, take_drop_all, runS, Nat.zero_add]
      go_wp2
      go_ret2
      exact ⟨by rw [HE.out.1, HE.out.2]; rfl, HB.out⟩

theorem index_nm (k : Nat) (hk : k < 7) (w : World) : (Instr.index 42 (.agg nmC) (.int .i64 (k : Int))).run Tryd.prog w = .ok (.string (nm k)) w := by
  obtain rfl | rfl | rfl | rfl | rfl | rfl | rfl : k = 0 ∨ k = 1 ∨ k = 2 ∨ k = 3 ∨ k = 4 ∨ k = 5 ∨ k = 6 := by omega
  all_goals kernel_rfl
theorem str_ne {a b : ByteArray} (h : a ≠ b) : (a.toList == b.toList) = false := by
  rw [ByteArray.toList_eq, ByteArray.toList_eq, beq_eq_false_iff_ne]
  exact fun e => h (WideShapes.bytes_inj e)
theorem str_eq (a : ByteArray) : (a.toList == a.toList) = true := beq_self_eq_true _
theorem parse_yes (j : Nat) (hj : j < 7) (w : World) (h : NamesAt w) : Calls Tryd.prog 17 #[.string (nm j)] w fun e w' => e = .returned (.tuple #[.int .i64 ((j : Int) + 1), .bool true]) ∧ w = w' := by
  obtain ⟨t, fr, h⟩ := h
  have H := Lib.hid h
  have HI : Hid (∀ k : Nat, k < 7 → ∀ w : World, (Instr.index 42 (.agg nmC) (.int .i64 (k : Int))).run Tryd.prog w = .ok (.string (nm k)) w) := Lib.hid index_nm
  clear h
  generalize nmC = cs at *
  go_enter Tryd.func17, Tryd.ntmps17
  go_wp2_with (refine wpList_load_row rfl 42 _ rfl 0 rfl t cs fr _ H.out Tryd.underlying42 rfl (by kernel_rfl) ?_)
  go_loop [7] (fun i => ∃ k : Nat, k ≤ j ∧ i = .int .i64 k) (fun i => 7 - (intOf i).toNat)
  case atStart => exact ⟨0, by omega, rfl⟩
  case round =>
    obtain ⟨k, hk, rfl⟩ := hrel
    have hx := HI.out k (by omega)
    by_cases hkj : k = j
    · subst hkj
      clear hk
      generalize nm k = s at *
      go_wp2
      go_ret2
      exact ⟨by rw [Int.add_comm]; rfl, rfl⟩
    · have hne := str_ne fun e => hkj (nm_inj k (by omega) j hj e)
      go_wp2
      go_round
      case rel => exact ⟨k + 1, by omega, by go_num⟩
      case measure => simp [intOf]; omega
theorem parse_no (s : ByteArray) (hs : ∀ k, k < 7 → nm k ≠ s) (w : World) (h : NamesAt w) : Calls Tryd.prog 17 #[.string s] w fun e w' => e = .returned (.tuple #[.int .i64 0, .bool false]) ∧ w = w' := by
  obtain ⟨t, fr, h⟩ := h
  have H := Lib.hid h
  have HI : Hid (∀ k : Nat, k < 7 → ∀ w : World, (Instr.index 42 (.agg nmC) (.int .i64 (k : Int))).run Tryd.prog w = .ok (.string (nm k)) w) := Lib.hid index_nm
  have HS := Lib.hid hs
  clear h hs
  generalize nmC = cs at *
  go_enter Tryd.func17, Tryd.ntmps17
  go_wp2_with (refine wpList_load_row rfl 42 _ rfl 0 rfl t cs fr _ H.out Tryd.underlying42 rfl (by kernel_rfl) ?_)
  go_loop [7] (fun i => ∃ k : Nat, k ≤ 7 ∧ i = .int .i64 k) (fun i => 7 - (intOf i).toNat)
  case atStart => exact ⟨0, by omega, rfl⟩
  case round =>
    obtain ⟨k, hk, rfl⟩ := hrel
    by_cases hlt : k < 7
    · have hx := HI.out k hlt
      have hne := str_ne (HS.out k hlt)
      go_wp2
      go_round
      case rel => exact ⟨k + 1, by omega, by go_num⟩
      case measure => simp [intOf]; omega
    · obtain rfl : k = 7 := by omega
      clear hlt
      go_wp2
      go_ret2
      exact ⟨rfl, rfl⟩
/-- The number of a name, or 0. -/
def posN (s : ByteArray) : Nat := if nm 0 = s then 1 else if nm 1 = s then 2 else if nm 2 = s then 3 else if nm 3 = s then 4 else if nm 4 = s then 5 else if nm 5 = s then 6 else if nm 6 = s then 7 else 0
theorem posN_nm : ∀ j, j < 7 → posN (nm j) = j + 1 := by decide
theorem posN_no {s : ByteArray} (h : ∀ k, k < 7 → nm k ≠ s) : posN s = 0 := by
  unfold posN
  rw [if_neg (h 0 (by omega)), if_neg (h 1 (by omega)), if_neg (h 2 (by omega)), if_neg (h 3 (by omega)), if_neg (h 4 (by omega)), if_neg (h 5 (by omega)), if_neg (h 6 (by omega))]
theorem posN_iff (s : ByteArray) : posN s ≤ 7 ∧ ∀ k, k < 7 → (nm k = s ↔ posN s = k + 1) := by
  rcases nm_cases s with ⟨j, hj, rfl⟩ | h
  · rw [posN_nm j hj]
    exact ⟨by omega, fun k hk => ⟨fun e => by rw [nm_inj k hk j hj e], fun e => by rw [show k = j by omega]⟩⟩
  · rw [posN_no h]
    exact ⟨by omega, fun k hk => ⟨fun e => absurd e (h k hk), fun e => by omega⟩⟩
theorem parse_any (s : ByteArray) (w : World) (h : NamesAt w) : Calls Tryd.prog 17 #[.string s] w fun e w' => e = .returned (.tuple #[.int .i64 (posN s : Nat), .bool (posN s != 0)]) ∧ w = w' := by
  rcases nm_cases s with ⟨j, hj, rfl⟩ | hn
  · refine (parse_yes j hj w h).mono ?_
    rintro e w' ⟨rfl, rfl⟩
    rw [posN_nm j hj]
    exact ⟨by simp, rfl⟩
  · refine (parse_no s hn w h).mono ?_
    rintro e w' ⟨rfl, rfl⟩
    rw [posN_no hn]
    exact ⟨rfl, rfl⟩

/-- The chapter's example holds. -/
theorem alive_any (w : World) (h : NamesAt w) : Calls Tryd.prog 11 #[] w fun e w' => e = .returned (.bool true) ∧ Below w.heap.size w w' := by
  have hk := h.below ((Below.refl _ w).alloc (Nat.le_refl _) (.cells #[.int .i64 1, .int .i64 2, .int .i64 3] 3))
  have hb0 := (Below.refl w.heap.size w).alloc (Nat.le_refl _) (.cells #[.int .i64 1, .int .i64 2, .int .i64 3] 3)
  have hB := Blk.new w 3 #[.int .i64 1, .int .i64 2, .int .i64 3]
  have hr : Rd .i64 (w.alloc (.cells #[.int .i64 1, .int .i64 2, .int .i64 3] 3)) (some ⟨w.heap.size, 0, none⟩) 3 [1, 2, 3] := fun _ => ⟨_, 0, rfl, hB.lt, fun i hi => by
    rw [hB.cell]
    obtain rfl | rfl | rfl : i = 0 ∨ i = 1 ∨ i = 2 := by omega
    all_goals exact ⟨rfl, by decide⟩⟩
  have hrun := run_any 1 _ 3 3 _ _ (by decide) hr (by omega) (by decide)
  have e1 : (runS 1 (List.take 3 [1, 2, 3])).1 = 4 := by decide
  have e2 : (runS 1 (List.take 3 [1, 2, 3])).2 = 3 := by decide
  rw [e1, e2] at hrun
  have H1 := Lib.hid hrun
  have HK := Lib.hid hk
  have HB := Lib.hid hb0
  have hn : (nm 3).toList == [117, 110, 98, 111, 110, 100, 105, 110, 103] := by rw [ByteArray.toList_eq]; decide
  clear hk hb0 hB hr hrun e1 e2 h
  go_enter Tryd.func11, Tryd.ntmps11
  go_wp2_with fail
  refine (H1.out).mono ?_
  rintro e w1 ⟨rfl, hb1⟩
  have HN := Lib.hid (name_yes 3 (by omega) w1 (HK.out.below hb1))
  have HB1 := Lib.hid (HB.out.trans (hb1.mono (by simp)))
  clear hb1
  go_wp2_with fail
  refine (HN.out).mono ?_
  rintro e w2 ⟨rfl, rfl⟩
  go_wp2
  go_ret
  exact ⟨rfl, HB1.out⟩
end Go.Proofs.YtdkojcmffkhpkaaDoor
