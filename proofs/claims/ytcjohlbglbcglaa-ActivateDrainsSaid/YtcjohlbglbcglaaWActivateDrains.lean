/- The walk of ActivateDrains. -/
import Derived.Test.YtcjohlbglbcglaaLive
import Derived.Test.YtcjohlbglbcglaaAppend
import Derived.OpenShut
namespace Go.Proofs.Ytcjohlbglbcglaa
open Go Go.RowKit Go.OpenShut
set_option linter.unusedVariables false
set_option linter.unusedSimpArgs false
set_option maxRecDepth 100000

theorem QOwn.kept {w0 w w' : World} {b sz : Nat} {go : Option Nat} {L : List Int} {T : Nat → Prop} (h : QOwn w0 w b sz go L) (hk : Kept T w w') (hT : ∀ i, T i → w0.heap.size ≤ i ∧ ¬ Foot b go i) : QOwn w0 w' b sz go L :=
  ⟨h.1.kept hk (fun i hi e => (hT i e).2 hi), h.2.1, Kept.below h.2.2 hk (fun i hi => (hT i hi).1) h.2.2.size⟩
/-- Where the drain stands: j are out. -/
structure Dr (w wr : World) (b sz : Nat) (go : Option Nat) (I : List Int) (z j : Nat) (v : Value) : Prop where
  q : QOwn w wr b sz go (I.drop j)
  row : wr.ownsRow z 3 1 v j ((I.take j).map (Value.int .i64))
  top : ∀ i, Foot b go i → i < z
  low : w.heap.size ≤ z
  size : z ≤ wr.heap.size
section
variable {w wr w' : World} {b sz : Nat} {go : Option Nat} {I : List Int} {z j : Nat} {v : Value}
theorem Dr.other (h : Dr w wr b sz go I z j v) (hk : Kept (Foot b go) wr w') {B : Nat} (hq : QOwn w w' b sz go (I.drop (j + B))) :
    QOwn w w' b sz go (I.drop (j + B)) ∧ w'.ownsRow z 3 1 v j ((I.take j).map (Value.int .i64)) ∧ z ≤ w'.heap.size :=
  ⟨hq, ⟨h.row.1, h.row.2.imp id (by
    rintro ⟨g, cp, cur, rfl, h1, h2, h3⟩
    refine ⟨g, cp, cur, rfl, h1, ?_, h3⟩
    rw [hk.block g (Array.getElem?_eq_some_iff.1 h2).1 (fun e => by have := h.top g e; omega)]
    exact h2)⟩, Nat.le_trans h.size hk.size⟩
theorem take_add (I : List Int) (j B : Nat) : (I.take j).map (Value.int .i64) ++ ((I.drop j).take B).map (Value.int .i64) = (I.take (j + B)).map (Value.int .i64) := by
  rw [← List.map_append, List.take_add]
end
set_option maxHeartbeats 3200000 in
theorem walk_ActivateDrains (a0 : Option Addr) (len0 cap0 : Nat) (z0 : List Int) (a1 : Option Addr) (len1 cap1 : Nat) (z1 : List Int) (a2 : Option Addr) (len2 cap2 : Nat) (z2 : List Int) (w : World) (w0 : IsRow .i64 w a0 len0 cap0 z0) (w1 : IsRow .u64 w a1 len1 cap1 z1) (w2 : IsRow .u64 w a2 len2 cap2 z2) :
    Calls Try.prog 4 #[.slice a0 len0 cap0, .slice a1 len1 cap1, .slice a2 len2 cap2] w fun e w' => e = .returned (.bool true) ∧ Below w.heap.size w w' := by
  obtain ⟨hu, hl2, hm2, hA⟩ := UAt.of_row w2
  obtain ⟨hv, hl1, hm1, hA1⟩ := UAt.of_row w1
  obtain ⟨hi, hl0, hc0, hm0⟩ := IntsAt.of_row (S := fun i => w.heap.size ≤ i) w0 (fun i h1 h2 => by omega)
  generalize z0.take len0 = I at *
  generalize z2.take len2 = L at *
  generalize z1.take len1 = M at *
  subst hl2
  have HU := Lib.hid hu
  have HV := Lib.hid hv
  have HI := Lib.hid hi
  have HA := Lib.hid (And.intro hA (And.intro hA1 hl1))
  clear w0 w1 w2 hu hi hA hv hA1 hl1
  by_cases h0 : (60 : Int) < (len0 : Int)
  · go_enter Try.func4, Try.ntmps4
    go_wp2_with fail
    refine (alive_any _).mono ?_
    rintro e w1 ⟨rfl, hb⟩
    have HB := Lib.hid hb
    clear hb
    go_wp2_with fail
    go_ret
    exact ⟨rfl, HB.out⟩
  · by_cases h1 : (100 : Int) < (len1 : Int)
    · go_enter Try.func4, Try.ntmps4
      go_wp2_with fail
      refine (alive_any _).mono ?_
      rintro e w1 ⟨rfl, hb⟩
      have HB := Lib.hid hb
      clear hb
      go_wp2_with fail
      go_ret
      exact ⟨rfl, HB.out⟩
    · by_cases h2 : (100 : Int) < (L.length : Int)
      · go_enter Try.func4, Try.ntmps4
        go_wp2_with fail
        refine (alive_any _).mono ?_
        rintro e w1 ⟨rfl, hb⟩
        have HB := Lib.hid hb
        clear hb
        go_wp2_with fail
        go_ret
        exact ⟨rfl, HB.out⟩
      · obtain ⟨i0, hi0, hy0, hy1, hy2⟩ := int_app
        have HQ := Lib.hid (queue_any (c := cap0) HI.out (by rw [hl0]; omega) (by rw [hl0]; exact hc0) hm0)
        rw [hl0] at HQ
        have HL0 := Lib.hid hl0
        clear hl0
        go_enter Try.func4, Try.ntmps4
        go_wp2_with fail
        refine HQ.out.mono ?_
        rintro e w1 ⟨b, sz, go, rfl, hq⟩
        obtain ⟨z, hz⟩ : ∃ z, w1.heap.size = z := ⟨_, rfl⟩
        have HD0 : Hid (Dr w w1 b sz go I z 0 (.slice none 0 0)) := Lib.hid ⟨hq, World.ownsRow_nil _ _ _ _, fun i hi => by rw [← hz]; exact hq.1.lt i hi, by rw [← hz]; exact hq.2.2.size, by omega⟩
        clear HQ hq hz
        go_wp2_with fail
        go_loopw [8, 33] (fun s8 s33 wr => ∃ (k j : Nat) (q : Option Addr) (c : Nat), k ≤ len0 ∧ j ≤ len0 ∧ (j = len0 ∨ k ≤ j) ∧ s33 = .int .i64 k ∧ s8 = .slice q j c ∧ Hid (Dr w wr b sz go I z j (.slice q j c))) (fun _ s33 _ => len0 - (intOf s33).toNat)
        case atStart => exact ⟨0, 0, none, 0, by omega, by omega, by omega, rfl, rfl, HD0⟩
        case round =>
          obtain ⟨k, j, q, c, hk, hj, hjk, rfl, rfl, HD⟩ := hrel
          by_cases hlt : k < len0
          · obtain ⟨r, hr⟩ : ∃ r, len0 - j = r := ⟨_, rfl⟩
            have hDl : (I.drop j).length = r := by rw [List.length_drop, HL0.out, hr]
            have hx : Amt (M.getD k 0) := HA.out.2.1 k
            have HLN := Lib.hid HD.out.q.len
            rw [hDl] at HLN
            have HST := Lib.hid (fun lim (hl : Amt lim) => HD.out.q.step (cap := cap2) (lim := lim) (HD.out.q.uat HU.out) hm2 HA.out.1 hl)
            have hst := HST.out _ hx
            have hBr := bat_le (lim := M.getD k 0) ((I.drop j).map (wOf L))
            have hBp := bat_pos (lim := M.getD k 0) (X := (I.drop j).map (wOf L))
            rw [List.length_map, hDl] at hBr hBp
            have hc1 : k < len1 → ∃ b1 o1, a1 = some ⟨b1, o1, none⟩ ∧ wr.cell? ⟨b1, o1 + k, none⟩ = some (.int .u64 (M.getD k 0)) := fun h => by
              obtain ⟨b1, o1, e1, _, hb1, hc⟩ := HV.out (by rw [HA.out.2.2]; omega)
              exact ⟨b1, o1, e1, (HD.out.q.2.2.cell (p := ⟨b1, o1 + k, none⟩) hb1).trans (hc k (by rw [HA.out.2.2]; exact h))⟩
            have hc2 : ¬ k < len1 → M.getD k 0 = 0 := fun h => by rw [List.getD_eq_getElem?_getD, List.getElem?_eq_none (by rw [HA.out.2.2]; omega)]; rfl
            clear HST hx
            generalize M.getD k 0 = x at *
            generalize bat x ((I.drop j).map (wOf L)) = B at *
            obtain ⟨r2, hr2⟩ : ∃ r2, r - B = r2 := ⟨_, rfl⟩
            have HR : Hid (((I.drop j).take B).length = B ∧ (I.drop (j + B)).length = r2 ∧ r + j = len0) := Lib.hid ⟨by rw [List.length_take, hDl]; omega, by rw [List.length_drop, HL0.out]; omega, by omega⟩
            have hsub : (r : Int) - (r2 : Int) = (B : Int) := by omega
            have hr0 : (0 < r ∧ 0 < B) ∨ (r = 0 ∧ B = 0) := by omega
            have hjB : j + B ≤ len0 := by omega
            have hjk2 : j + B = len0 ∨ k + 1 ≤ j + B := by omega
            have HST := Lib.hid hst
            clear hst hDl hr hr2 hBp hBr
            by_cases hk1 : k < len1
            · obtain ⟨b1, o1, rfl, hcell⟩ := hc1 hk1
              clear hc1 hc2
              rcases hr0 with ⟨hr1, hB1⟩ | ⟨hr1, hB1⟩
              · have hd1 : decide (0 < r) = true := by simp; omega
                have hd2 : ((B : Int) == 0) = false := by simp; omega
                go_wp2_with fail
                refine HLN.out.mono ?_
                rintro e w' ⟨rfl, rfl⟩
                clear HLN
                go_wp2_with fail
                refine HST.out.mono ?_
                rintro e w3 ⟨a5, c5, rfl, -, -, hi5, hq5, hk5⟩
                rw [List.drop_drop] at hq5
                obtain ⟨hq6, hrow6, hsz6⟩ := HD.out.other hk5 hq5
                have HLN2 := Lib.hid hq6.len
                rw [HR.out.2.1] at HLN2
                have H6 := Lib.hid (And.intro hq6 (And.intro hrow6 hsz6))
                have HSR := Lib.hid hi5.src
                have hbl : ∀ u ∈ ((I.drop j).take B).map (Value.int .i64), u.oneCell' = true := fun u hu => by
                  obtain ⟨x, _, rfl⟩ := List.mem_map.1 hu
                  rfl
                have HBL := Lib.hid hbl
                clear hi5 hq5 hk5 hq6 hrow6 hsz6 HST hbl
                go_wp2_with (first | (go_at_call 15; refine HLN2.out.mono ?_; rintro e w' ⟨rfl, rfl⟩) | (at_builtin; refine wpList_append_src _ rfl (.tmp 66) (.tmp 67) 22 rfl z 3 i0 _ 1 8 Try.underlying22 hi0 hy0 hy1 hy2 rfl Nat.one_pos (.slice q j c) j _ rfl H6.out.2.1 a5 B c5 (((I.drop j).take B).map (Value.int .i64)) rfl (by rw [List.length_map, HR.out.1, Nat.mul_one]) (fun h0 => by obtain ⟨ad, e, _, hc⟩ := HSR.out.2.2 (by rw [HR.out.1]; exact h0); exact ⟨ad, e, hc⟩) HBL.out (by unfold maxLen; omega) (by omega) H6.out.2.2 ?_; intro v4 w4 ho4 hg4 _; obtain ⟨q4, c4, rfl⟩ := owns_slice' ho4; have HN4 : Hid (Dr w w4 b sz go I z (j + B) (.slice q4 (j + B) c4)) := Lib.hid ⟨H6.out.1.kept (Kept.of_grown (S := fun i => (Value.slice q j c).ownBlock = some i) hg4 (fun i e => e.symm)) (fun i e => by have h1 := (H6.out.2.1.lt i e).1; exact ⟨Nat.le_trans HD.out.low h1, fun hf => by have := HD.out.top i hf; omega⟩), by rw [← take_add]; exact ho4, HD.out.top, HD.out.low, Nat.le_trans H6.out.2.2 hg4.size⟩; clear ho4 hg4))
                go_roundw
                case rel => exact ⟨k + 1, j + B, q4, c4, by omega, by omega, by omega, by go_num, rfl, HN4⟩
                case measure => simp [intOf]; omega
              · have hd1 : decide (0 < r) = false := by simp; omega
                have hr2 : ¬ 0 < r := by omega
                clear hr1 hB1
                go_wp2_with fail
                refine HLN.out.mono ?_
                rintro e w' ⟨rfl, rfl⟩
                clear HLN
                go_wp2_with fail
                refine HST.out.mono ?_
                rintro e w3 ⟨a5, c5, rfl, -, -, hi5, hq5, hk5⟩
                rw [List.drop_drop] at hq5
                obtain ⟨hq6, hrow6, hsz6⟩ := HD.out.other hk5 hq5
                have HLN2 := Lib.hid hq6.len
                rw [HR.out.2.1] at HLN2
                have H6 := Lib.hid (And.intro hq6 (And.intro hrow6 hsz6))
                have HSR := Lib.hid hi5.src
                have hbl : ∀ u ∈ ((I.drop j).take B).map (Value.int .i64), u.oneCell' = true := fun u hu => by
                  obtain ⟨x, _, rfl⟩ := List.mem_map.1 hu
                  rfl
                have HBL := Lib.hid hbl
                clear hi5 hq5 hk5 hq6 hrow6 hsz6 HST hbl
                go_wp2_with (first | (go_at_call 15; refine HLN2.out.mono ?_; rintro e w' ⟨rfl, rfl⟩) | (at_builtin; refine wpList_append_src _ rfl (.tmp 66) (.tmp 67) 22 rfl z 3 i0 _ 1 8 Try.underlying22 hi0 hy0 hy1 hy2 rfl Nat.one_pos (.slice q j c) j _ rfl H6.out.2.1 a5 B c5 (((I.drop j).take B).map (Value.int .i64)) rfl (by rw [List.length_map, HR.out.1, Nat.mul_one]) (fun h0 => by obtain ⟨ad, e, _, hc⟩ := HSR.out.2.2 (by rw [HR.out.1]; exact h0); exact ⟨ad, e, hc⟩) HBL.out (by unfold maxLen; omega) (by omega) H6.out.2.2 ?_; intro v4 w4 ho4 hg4 _; obtain ⟨q4, c4, rfl⟩ := owns_slice' ho4; have HN4 : Hid (Dr w w4 b sz go I z (j + B) (.slice q4 (j + B) c4)) := Lib.hid ⟨H6.out.1.kept (Kept.of_grown (S := fun i => (Value.slice q j c).ownBlock = some i) hg4 (fun i e => e.symm)) (fun i e => by have h1 := (H6.out.2.1.lt i e).1; exact ⟨Nat.le_trans HD.out.low h1, fun hf => by have := HD.out.top i hf; omega⟩), by rw [← take_add]; exact ho4, HD.out.top, HD.out.low, Nat.le_trans H6.out.2.2 hg4.size⟩; clear ho4 hg4))
                go_roundw
                case rel => exact ⟨k + 1, j + B, q4, c4, by omega, by omega, by omega, by go_num, rfl, HN4⟩
                case measure => simp [intOf]; omega
            · obtain rfl := hc2 hk1
              clear hc1 hc2
              rcases hr0 with ⟨hr1, hB1⟩ | ⟨hr1, hB1⟩
              · have hd1 : decide (0 < r) = true := by simp; omega
                have hd2 : ((B : Int) == 0) = false := by simp; omega
                go_wp2_with fail
                refine HLN.out.mono ?_
                rintro e w' ⟨rfl, rfl⟩
                clear HLN
                go_wp2_with fail
                refine HST.out.mono ?_
                rintro e w3 ⟨a5, c5, rfl, -, -, hi5, hq5, hk5⟩
                rw [List.drop_drop] at hq5
                obtain ⟨hq6, hrow6, hsz6⟩ := HD.out.other hk5 hq5
                have HLN2 := Lib.hid hq6.len
                rw [HR.out.2.1] at HLN2
                have H6 := Lib.hid (And.intro hq6 (And.intro hrow6 hsz6))
                have HSR := Lib.hid hi5.src
                have hbl : ∀ u ∈ ((I.drop j).take B).map (Value.int .i64), u.oneCell' = true := fun u hu => by
                  obtain ⟨x, _, rfl⟩ := List.mem_map.1 hu
                  rfl
                have HBL := Lib.hid hbl
                clear hi5 hq5 hk5 hq6 hrow6 hsz6 HST hbl
                go_wp2_with (first | (go_at_call 15; refine HLN2.out.mono ?_; rintro e w' ⟨rfl, rfl⟩) | (at_builtin; refine wpList_append_src _ rfl (.tmp 66) (.tmp 67) 22 rfl z 3 i0 _ 1 8 Try.underlying22 hi0 hy0 hy1 hy2 rfl Nat.one_pos (.slice q j c) j _ rfl H6.out.2.1 a5 B c5 (((I.drop j).take B).map (Value.int .i64)) rfl (by rw [List.length_map, HR.out.1, Nat.mul_one]) (fun h0 => by obtain ⟨ad, e, _, hc⟩ := HSR.out.2.2 (by rw [HR.out.1]; exact h0); exact ⟨ad, e, hc⟩) HBL.out (by unfold maxLen; omega) (by omega) H6.out.2.2 ?_; intro v4 w4 ho4 hg4 _; obtain ⟨q4, c4, rfl⟩ := owns_slice' ho4; have HN4 : Hid (Dr w w4 b sz go I z (j + B) (.slice q4 (j + B) c4)) := Lib.hid ⟨H6.out.1.kept (Kept.of_grown (S := fun i => (Value.slice q j c).ownBlock = some i) hg4 (fun i e => e.symm)) (fun i e => by have h1 := (H6.out.2.1.lt i e).1; exact ⟨Nat.le_trans HD.out.low h1, fun hf => by have := HD.out.top i hf; omega⟩), by rw [← take_add]; exact ho4, HD.out.top, HD.out.low, Nat.le_trans H6.out.2.2 hg4.size⟩; clear ho4 hg4))
                go_roundw
                case rel => exact ⟨k + 1, j + B, q4, c4, by omega, by omega, by omega, by go_num, rfl, HN4⟩
                case measure => simp [intOf]; omega
              · have hd1 : decide (0 < r) = false := by simp; omega
                have hr2 : ¬ 0 < r := by omega
                clear hr1 hB1
                go_wp2_with fail
                refine HLN.out.mono ?_
                rintro e w' ⟨rfl, rfl⟩
                clear HLN
                go_wp2_with fail
                refine HST.out.mono ?_
                rintro e w3 ⟨a5, c5, rfl, -, -, hi5, hq5, hk5⟩
                rw [List.drop_drop] at hq5
                obtain ⟨hq6, hrow6, hsz6⟩ := HD.out.other hk5 hq5
                have HLN2 := Lib.hid hq6.len
                rw [HR.out.2.1] at HLN2
                have H6 := Lib.hid (And.intro hq6 (And.intro hrow6 hsz6))
                have HSR := Lib.hid hi5.src
                have hbl : ∀ u ∈ ((I.drop j).take B).map (Value.int .i64), u.oneCell' = true := fun u hu => by
                  obtain ⟨x, _, rfl⟩ := List.mem_map.1 hu
                  rfl
                have HBL := Lib.hid hbl
                clear hi5 hq5 hk5 hq6 hrow6 hsz6 HST hbl
                go_wp2_with (first | (go_at_call 15; refine HLN2.out.mono ?_; rintro e w' ⟨rfl, rfl⟩) | (at_builtin; refine wpList_append_src _ rfl (.tmp 66) (.tmp 67) 22 rfl z 3 i0 _ 1 8 Try.underlying22 hi0 hy0 hy1 hy2 rfl Nat.one_pos (.slice q j c) j _ rfl H6.out.2.1 a5 B c5 (((I.drop j).take B).map (Value.int .i64)) rfl (by rw [List.length_map, HR.out.1, Nat.mul_one]) (fun h0 => by obtain ⟨ad, e, _, hc⟩ := HSR.out.2.2 (by rw [HR.out.1]; exact h0); exact ⟨ad, e, hc⟩) HBL.out (by unfold maxLen; omega) (by omega) H6.out.2.2 ?_; intro v4 w4 ho4 hg4 _; obtain ⟨q4, c4, rfl⟩ := owns_slice' ho4; have HN4 : Hid (Dr w w4 b sz go I z (j + B) (.slice q4 (j + B) c4)) := Lib.hid ⟨H6.out.1.kept (Kept.of_grown (S := fun i => (Value.slice q j c).ownBlock = some i) hg4 (fun i e => e.symm)) (fun i e => by have h1 := (H6.out.2.1.lt i e).1; exact ⟨Nat.le_trans HD.out.low h1, fun hf => by have := HD.out.top i hf; omega⟩), by rw [← take_add]; exact ho4, HD.out.top, HD.out.low, Nat.le_trans H6.out.2.2 hg4.size⟩; clear ho4 hg4))
                go_roundw
                case rel => exact ⟨k + 1, j + B, q4, c4, by omega, by omega, by omega, by go_num, rfl, HN4⟩
                case measure => simp [intOf]; omega
          · obtain rfl : k = len0 := by omega
            obtain rfl : j = k := by omega
            clear hlt
            have hlt : ¬ j < j := by omega
            go_wp2_with fail
            refine (alive_any _).mono ?_
            rintro e w6 ⟨rfl, hb⟩
            have hrow := HD.out.row
            rw [List.take_of_length_le (by rw [HL0.out]; exact Nat.le_refl _)] at hrow
            obtain ⟨a', c', e', _, _, _, hir⟩ := ints_of_owns (S := fun _ => False) hrow (fun _ _ h => h)
            injection e' with e1 _ e3
            subst e1 e3
            have HQ6 := Lib.hid (HD.out.q.below hb)
            have HE := Lib.hid (equal_same (n := j) (c := c) (d := cap0) (hir.below hb) (HI.out.below HQ6.out.2.2) HL0.out (by omega))
            clear hb hrow hir HD
            go_wp2_with fail
            refine HE.out.mono ?_
            rintro e w7 ⟨rfl, q7, hq7⟩
            have HQ7 := Lib.hid (HQ6.out.drewN q7)
            rw [← hq7] at HQ7
            have HLN := Lib.hid HQ7.out.len
            rw [List.length_drop, HL0.out, Nat.sub_self] at HLN
            clear hq7 HE HQ6
            go_wp2_with fail
            refine HLN.out.mono ?_
            rintro e w' ⟨rfl, rfl⟩
            go_wp2
            go_ret
            exact ⟨rfl, HQ7.out.2.2⟩
end Go.Proofs.Ytcjohlbglbcglaa
