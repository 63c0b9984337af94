/- The reference's Wait; Max. -/
import Derived.Test.YtcjohlbglbcglaaRStep
import Derived.Test.YtcjohlbglbcglaaWait
import Derived.RangeFuncBox
namespace Go.Proofs.Ytcjohlbglbcglaa
open Go Go.RowKit
set_option linter.unusedVariables false
set_option linter.unusedSimpArgs false
set_option maxRecDepth 100000

theorem rmax_any (w : World) : Calls Try.prog 21 #[] w fun e w' => e = .returned (.int .u64 18446744073709551615) ∧ w = w' := by
  go_enter Try.func21, Try.ntmps21
  go_wp2_with fail
  refine (refmax_any _).mono ?_
  rintro e w' ⟨rfl, rfl⟩
  go_wp2
  go_ret
  exact ⟨rfl, rfl⟩
/-- The first k numbers. -/
def upN (k : Nat) : List Int := (List.range k).map fun (i : Nat) => (i : Int)
theorem upN_len (k : Nat) : (upN k).length = k := by simp [upN]
theorem upN_succ (k : Nat) : upN (k + 1) = upN k ++ [(k : Int)] := by simp [upN, List.range_succ]
theorem upN_weights (X : List Int) : (upN X.length).map (wOf X) = X := by
  refine List.ext_getElem (by simp [upN]) fun i h1 h2 => ?_
  have h3 : i < X.length := h2
  simp [upN, wOf, h3]
theorem int_info1 : ∃ i, Try.prog.info? 3 = some i ∧ i.zero = some (.int .i64 0) ∧ i.size = 1 ∧ i.bytes = 8 := int_app
/-- What owns a row of another type stays where a row is appended to. -/
theorem owns_apart {w w' : World} {base e e' n m : Nat} {v v' : Value} {xs xs' : List Value} (h : w.ownsRow base e 1 v n xs) (h' : w.ownsRow base e' 1 v' m xs') (hne : e ≠ e') (hg : w.grownBy w' v'.ownBlock) : w'.ownsRow base e 1 v n xs := by
  refine ⟨h.1, ?_⟩
  rcases h.2 with ⟨h1, h2⟩ | ⟨g, cp, cur, rfl, hb, hc, hr⟩
  · exact .inl ⟨h1, h2⟩
  · refine .inr ⟨g, cp, cur, rfl, hb, ?_, hr⟩
    rw [hg.block g (Array.getElem?_eq_some_iff.1 hc).1 (fun e1 => ?_)]
    · exact hc
    · rcases h'.2 with ⟨h1, _⟩ | ⟨g', cp', cur', rfl, _, hc', _⟩
      · rw [h1] at e1; cases e1
      · injection e1 with e1
        have e1 : g = g' := e1
        subst e1
        rw [hc] at hc'
        injection hc' with hc'
        injection hc' with _ h2 _
        exact hne h2
theorem IntsAt.drop {w : World} {S : Nat → Prop} {g o j : Nat} {L : List Int} (h : IntsAt w S (some ⟨g, o, none⟩) L) : IntsAt w S (some ⟨g, o + j, none⟩) (L.drop j) := fun h0 => by
  rw [List.length_drop] at h0
  obtain ⟨b, off, e, h1, h2, h3⟩ := h (by omega)
  injection e with e
  injection e with e1 e2
  subst e1 e2
  refine ⟨_, _, rfl, h1, h2, fun i hi => ?_⟩
  rw [List.length_drop] at hi
  have := h3 (j + i) (by omega)
  rw [← Nat.add_assoc] at this
  rw [this]
  simp [List.getD_eq_getElem?_getD]
section
variable {w : World} {S S2 : Nat → Prop} {a ia : Option Addr} {Lw I : List Int} {cap ic : Nat} {lim x : Int}
set_option maxHeartbeats 2000000 in
theorem rwait_any (hu : UAt w S a Lw) (hL : Lw.length ≤ 9223372036854775807) (hA : Amts Lw) (hi : IntsAt w S2 ia I) (hn : I.length ≤ 10000) (hl : Amt lim) (hx : Amt x) :
    Calls Try.prog 18 #[.slice ia I.length ic, .int .u64 lim, .slice a Lw.length cap, .int .u64 x] w fun e w' => e = .returned (.int .i64 (bnd lim (I.map (wOf Lw) ++ [x]) : Int)) ∧ Below w.heap.size w w' := by
  obtain ⟨j0, hj0, hz0, hz1, hz2⟩ := u64_info
  obtain ⟨i0, hi0, hy0, hy1, hy2⟩ := int_app
  have HU := Lib.hid hu
  have HL := Lib.hid hL
  have HA := Lib.hid hA
  have HI := Lib.hid hi
  have HAl := Lib.hid (And.intro hl hx)
  obtain ⟨n, hn'⟩ : ∃ n, I.length = n := ⟨_, rfl⟩
  have HN := Lib.hid hn'
  rw [hn'] at hn ⊢
  clear hu hL hA hi hn' hl hx
  go_enter Try.func18, Try.ntmps18
  go_wp2
  generalize hz : w.heap.size = z at *
  have HZ := Lib.hid hz
  clear hz
  go_loopw [9, 10, 11] (fun s9 s10 s11 wr => ∃ (k : Nat) (q q2 : Option Addr) (c c2 : Nat), k ≤ n ∧ s11 = .int .i64 k ∧ s9 = .slice q k c ∧ s10 = .slice q2 k c2 ∧ Hid (wr.ownsRow z 23 1 (.slice q k c) k (wrow (wOf Lw) I k)) ∧ Hid (wr.ownsRow z 3 1 (.slice q2 k c2) k ((upN k).map (Value.int .i64))) ∧ Hid (Below z w wr)) (fun _ _ s11 _ => n - (intOf s11).toNat)
  case atStart => exact ⟨0, none, none, 0, 0, by omega, rfl, rfl, rfl, Lib.hid (World.ownsRow_nil _ _ _ _), Lib.hid (World.ownsRow_nil _ _ _ _), Lib.hid (Below.refl _ _)⟩
  case round =>
    obtain ⟨k, q, q2, c, c2, hk, rfl, rfl, rfl, HO, HP, HB⟩ := hrel
    have HS1 : Hid (z ≤ wr.heap.size) := Lib.hid (by have := HB.out.size; rw [HZ.out] at this; exact this)
    by_cases hlt : k < n
    · obtain ⟨b, off, rfl, _, hb, hc⟩ := HI.out (by rw [HN.out]; omega)
      have hcell : wr.cell? ⟨b, off + k, none⟩ = some (.int .i64 (I.getD k 0)) := (HB.out.cell (p := ⟨b, off + k, none⟩) (by rw [← HZ.out]; exact hb)).trans (hc k (by rw [HN.out]; exact hlt))
      have HOF := Lib.hid (of_any cap (I.getD k 0) wr (HU.out.below (by rw [HZ.out]; exact HB.out)) HL.out)
      have hsn := wrow_succ (wOf Lw) (show k < I.length by rw [HN.out]; exact hlt)
      have HSN := Lib.hid hsn
      have HSU := Lib.hid (upN_succ k)
      generalize I.getD k 0 = y at *
      generalize wOf Lw y = om at *
      have HO1 : Hid ((wr.alloc (.cells #[.int .u64 om] 23)).ownsRow z 23 1 (.slice q k c) k (wrow (wOf Lw) I k)) := Lib.hid (HO.out.alloc _)
      have HP1 : Hid ((wr.alloc (.cells #[.int .u64 om] 23)).ownsRow z 3 1 (.slice q2 k c2) k ((upN k).map (Value.int .i64))) := Lib.hid (HP.out.alloc _)
      clear hc hb hsn HO HP
      go_wp2_with fail
      refine HOF.out.mono ?_
      rintro e w' ⟨rfl, rfl⟩
      clear HOF
      go_wp2_with (first | (at_builtin; refine wpList_append_own _ rfl _ _ 24 rfl z 23 j0 (.int .u64 0) 1 8 Try.underlying24 hj0 hz0 hz1 hz2 rfl (by decide) _ _ _ rfl HO1.out ⟨wr.heap.size, 0, none⟩ 1 1 [.int .u64 om] rfl rfl (cell_one _ _ _) (by simp [Value.oneCell']) (by unfold maxLen; omega) (by omega) (by have := HS1.out; simp; omega) ?_; intro v' w2 hown2 hgrow _; have HO2 : Hid (w2.ownsRow z 23 1 v' (k + 1) (wrow (wOf Lw) I (k + 1))) := Lib.hid (by rw [HSN.out]; exact hown2); have HP2 : Hid (w2.ownsRow z 3 1 (.slice q2 k c2) k ((upN k).map (Value.int .i64))) := Lib.hid (owns_apart HP1.out HO1.out (by decide) hgrow); have HW2 : Hid (Below z w w2) := Lib.hid ((HB.out.alloc HS1.out _).grown hgrow (by have := HS1.out; simp; omega) (fun i hi => (HO1.out.lt i hi).1)); obtain ⟨q3, c3, rfl⟩ := owns_slice' hown2; have HO3 := Lib.hid (HO2.out.alloc (.cells #[.int .i64 k] 3)); have HP3 := Lib.hid (HP2.out.alloc (.cells #[.int .i64 k] 3)); have HS2 : Hid (z ≤ w2.heap.size) := Lib.hid (by have := HW2.out.size; rw [HZ.out] at this; exact this); clear hown2 hgrow HO1 HP1 HB HS1 HO2 HP2) | (at_builtin; refine wpList_append_own _ rfl _ _ 22 rfl z 3 i0 (.int .i64 0) 1 8 Try.underlying22 hi0 hy0 hy1 hy2 rfl (by decide) _ _ _ rfl HP3.out ⟨w2.heap.size, 0, none⟩ 1 1 [.int .i64 k] rfl rfl (cell_one _ _ _) (by simp [Value.oneCell']) (by unfold maxLen; omega) (by omega) (by have := HS2.out; simp; omega) ?_; intro v4 w4 hown4 hgrow4 _; have HO4 : Hid (w4.ownsRow z 23 1 (.slice q3 (k + 1) c3) (k + 1) (wrow (wOf Lw) I (k + 1))) := Lib.hid (owns_apart HO3.out HP3.out (by decide) hgrow4); have HP4 : Hid (w4.ownsRow z 3 1 v4 (k + 1) ((upN (k + 1)).map (Value.int .i64))) := Lib.hid (by rw [HSU.out, List.map_append]; exact hown4); have HW4 : Hid (Below z w w4) := Lib.hid ((HW2.out.alloc HS2.out _).grown hgrow4 (by have := HS2.out; simp; omega) (fun i hi => (HP3.out.lt i hi).1)); obtain ⟨q5, c5, rfl⟩ := owns_slice' hown4; clear hown4 hgrow4 HO3 HP3 HW2))
      go_roundw
      case rel => exact ⟨k + 1, q3, q5, c3, c5, by omega, by go_num, rfl, rfl, HO4, HP4, HW4⟩
      case measure => simp [intOf]; omega
    · obtain rfl : k = n := by omega
      clear hlt
      have hlt : ¬ k < k := by omega
      have HO1 : Hid ((wr.alloc (.cells #[.int .u64 x] 23)).ownsRow z 23 1 (.slice q k c) k (wrow (wOf Lw) I k)) := Lib.hid (HO.out.alloc _)
      have HP1 : Hid ((wr.alloc (.cells #[.int .u64 x] 23)).ownsRow z 3 1 (.slice q2 k c2) k ((upN k).map (Value.int .i64))) := Lib.hid (HP.out.alloc _)
      have HSU := Lib.hid (upN_succ k)
      clear HO HP
      have HSN : Hid (wrow (wOf Lw) I k ++ [.int .u64 x] = (I.map (wOf Lw) ++ [x]).map (Value.int .u64)) := Lib.hid (by rw [wrow, List.take_of_length_le (by rw [HN.out]; exact Nat.le_refl _), List.map_append, List.map_map]; simp)
      go_wp2_with (first | (at_builtin; refine wpList_append_own _ rfl _ _ 24 rfl z 23 j0 (.int .u64 0) 1 8 Try.underlying24 hj0 hz0 hz1 hz2 rfl (by decide) _ _ _ rfl HO1.out ⟨wr.heap.size, 0, none⟩ 1 1 [.int .u64 x] rfl rfl (cell_one _ _ _) (by simp [Value.oneCell']) (by unfold maxLen; omega) (by omega) (by have := HS1.out; simp; omega) ?_; intro v' w2 hown2 hgrow _; have HO2 : Hid (w2.ownsRow z 23 1 v' (k + 1) ((I.map (wOf Lw) ++ [x]).map (Value.int .u64))) := Lib.hid (by rw [← HSN.out]; exact hown2); have HP2 : Hid (w2.ownsRow z 3 1 (.slice q2 k c2) k ((upN k).map (Value.int .i64))) := Lib.hid (owns_apart HP1.out HO1.out (by decide) hgrow); have HW2 : Hid (Below z w w2) := Lib.hid ((HB.out.alloc HS1.out _).grown hgrow (by have := HS1.out; simp; omega) (fun i hi => (HO1.out.lt i hi).1)); obtain ⟨q3, c3, rfl⟩ := owns_slice' hown2; have HO3 := Lib.hid (HO2.out.alloc (.cells #[.int .i64 k] 3)); have HP3 := Lib.hid (HP2.out.alloc (.cells #[.int .i64 k] 3)); have HS2 : Hid (z ≤ w2.heap.size) := Lib.hid (by have := HW2.out.size; rw [HZ.out] at this; exact this); clear hown2 hgrow HO1 HP1 HB HS1 HO2 HP2) | (at_builtin; refine wpList_append_own _ rfl _ _ 22 rfl z 3 i0 (.int .i64 0) 1 8 Try.underlying22 hi0 hy0 hy1 hy2 rfl (by decide) _ _ _ rfl HP3.out ⟨w2.heap.size, 0, none⟩ 1 1 [.int .i64 k] rfl rfl (cell_one _ _ _) (by simp [Value.oneCell']) (by unfold maxLen; omega) (by omega) (by have := HS2.out; simp; omega) ?_; intro v4 w4 hown4 hgrow4 _; have HO4 : Hid (w4.ownsRow z 23 1 (.slice q3 (k + 1) c3) (k + 1) ((I.map (wOf Lw) ++ [x]).map (Value.int .u64))) := Lib.hid (owns_apart HO3.out HP3.out (by decide) hgrow4); have HP4 : Hid (w4.ownsRow z 3 1 v4 (k + 1) ((upN (k + 1)).map (Value.int .i64))) := Lib.hid (by rw [HSU.out, List.map_append]; exact hown4); have HW4 : Hid (Below z w w4) := Lib.hid ((HW2.out.alloc HS2.out _).grown hgrow4 (by have := HS2.out; simp; omega) (fun i hi => (HP3.out.lt i hi).1)); obtain ⟨g5, c5, rfl⟩ := ownsRow_succ hown4; clear hown4 hgrow4 HO3 HP3 HW2))
      obtain ⟨X, hX⟩ : ∃ X, I.map (wOf Lw) ++ [x] = X := ⟨_, rfl⟩
      have hXl : X.length = k + 1 := by rw [← hX, List.length_append, List.length_map, HN.out]; rfl
      have hXa : Amts X := fun j => by
        rw [← hX, List.getD_eq_getElem?_getD, List.getElem?_append]
        split
        · have := amts_map (I := I) (fun i => wOf_amt HA.out i) j
          rwa [List.getD_eq_getElem?_getD] at this
        · rcases h : j - (I.map (wOf Lw)).length with _ | q
          · exact HAl.out.2
          · exact ⟨Int.le_refl 0, show (0 : Int) ≤ 18446744073709551615 by decide⟩
      have HXX := Lib.hid hX
      rw [hX] at HO4
      obtain ⟨a6, c6, e6, -, -, hU4⟩ := amts_of_owns (S := fun _ => False) HO4.out (fun _ _ h => h)
      injection e6 with e1 _ e3
      subst e1 e3
      obtain ⟨a7, c7, e7, _, hc7, hc8, hI4⟩ := ints_of_owns (S := fun _ => False) HP4.out (fun _ _ h => h)
      injection e7 with e1 _ e3
      subst e1 e3
      have hs4 : z ≤ w4.heap.size := by have := HW4.out.size; rw [HZ.out] at this; exact this
      have HU4 := Lib.hid (And.intro hU4 (And.intro hI4 (And.intro hXa (And.intro hXl hs4))))
      have hcm : c5 ≤ 9223372036854775807 := hc8
      rw [hX] at HSN
      clear hU4 hI4 hX hXa hXl HO4 HP4 HSN HSU hc8 hs4 HS2
      have HB0 : Hid (1 + bnd lim (X.drop 0) = bnd lim X + 1) := Lib.hid (by rw [List.drop_zero]; omega)
      go_wp2_with fail
      go_loopw [10, 12] (fun s10 s12 wr => ∃ (j r i cc : Nat), j + r = k + 1 ∧ 0 < r ∧ r ≤ cc ∧ cc ≤ c5 ∧ i ≤ j + 1 ∧ s12 = .int .i64 i ∧ s10 = .slice (some ⟨g5, j, none⟩) r cc ∧ Hid (i + bnd lim (X.drop j) = bnd lim X + 1) ∧ Hid (Below w4.heap.size w4 wr)) (fun s10 _ _ => match s10 with | .slice _ r _ => r | _ => 0)
      case atStart => exact ⟨0, k + 1, 1, c5, by omega, by omega, hc7, Nat.le_refl _, by omega, rfl, rfl, HB0, Lib.hid (Below.refl _ _)⟩
      case round =>
        obtain ⟨j, r, i, cc, hjr, hr0, hrc, hcc, hij, rfl, rfl, HBN, HBW⟩ := hrel
        have hIl : ((upN (k + 1)).drop j).length = r := by rw [List.length_drop, upN_len]; omega
        have hst := rstep_any (ic := cc) (cap := c3) (lim := lim) (HU4.out.1.below HBW.out) (by rw [HU4.out.2.2.2.1]; omega) HU4.out.2.2.1 (IntsAt.drop (HU4.out.2.1.below HBW.out) (j := j)) (by rw [hIl]; omega) (by rw [hIl]; exact hrc) (by omega) HAl.out.1
        have hwt : ((upN (k + 1)).drop j).map (wOf X) = X.drop j := by
          rw [← HU4.out.2.2.2.1, List.map_drop, upN_weights]
        rw [hIl, hwt, HU4.out.2.2.2.1, Nat.zero_add] at hst
        have hXd : (X.drop j).length = r := by rw [List.length_drop, HU4.out.2.2.2.1]; omega
        have hle := bat_le (lim := lim) (X.drop j)
        have hpos := bat_pos (lim := lim) (X := X.drop j) (by omega)
        have hnx := bnd_next (lim := lim) (X := X.drop j) (by omega)
        rw [List.drop_drop] at hnx
        rw [hXd] at hle
        have HNX := Lib.hid hnx
        generalize bat lim (X.drop j) = B at *
        have HST := Lib.hid hst
        clear hst hwt hIl hnx
        by_cases hBr : B = r
        · have hb1 : ((B : Int) == (r : Int)) = true := by simp [hBr]
          have hend : bnd lim X = i := by
            have h1 := HNX.out
            have h2 := HBN.out
            rw [List.drop_of_length_le (show X.length ≤ j + B by rw [HU4.out.2.2.2.1]; omega), bnd_nil] at h1
            omega
          have HEND := Lib.hid hend
          clear hend
          go_wp2_with fail
          refine HST.out.mono ?_
          rintro e w7 ⟨rfl, b7⟩
          have HB7 := Lib.hid ((HBW.out.trans (b7.mono HBW.out.size)).mono HU4.out.2.2.2.2)
          clear b7 HST
          go_wp2
          go_ret
          exact ⟨by rw [HXX.out, HEND.out]; rfl, HZ.out ▸ HW4.out.trans HB7.out⟩
        · have hb1 : ((B : Int) == (r : Int)) = false := by simp; omega
          have HBN2 : Hid ((i + 1) + bnd lim (X.drop (j + B)) = bnd lim X + 1) := Lib.hid (by have := HNX.out; have := HBN.out; omega)
          go_wp2_with fail
          refine HST.out.mono ?_
          rintro e w7 ⟨rfl, b7⟩
          have HB7 := Lib.hid (HBW.out.trans (b7.mono HBW.out.size))
          clear b7 HST
          go_wp2
          go_roundw
          case rel => exact ⟨j + B, r - B, i + 1, cc - B, by omega, by omega, by omega, by omega, by omega, by go_num, rfl, HBN2, HB7⟩
          case measure => simp; omega
end
end Go.Proofs.Ytcjohlbglbcglaa
