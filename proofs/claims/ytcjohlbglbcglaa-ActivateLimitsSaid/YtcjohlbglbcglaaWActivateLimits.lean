/- The walk of ActivateLimits. -/
import Derived.Test.YtcjohlbglbcglaaLive
import Derived.Test.YtcjohlbglbcglaaRStep
import Derived.Test.YtcjohlbglbcglaaAppend
import Derived.OpenShut
namespace Go.Proofs.Ytcjohlbglbcglaa
open Go Go.RowKit Go.OpenShut
set_option linter.unusedVariables false
set_option linter.unusedSimpArgs false
set_option maxRecDepth 100000

theorem QOwn.grown {w0 w w' : World} {b sz : Nat} {go : Option Nat} {L : List Int} {g : Option Nat} (h : QOwn w0 w b sz go L) (hg : w.grownBy w' g) (hT : ∀ i, g = some i → w0.heap.size ≤ i ∧ ¬ Foot b go i) : QOwn w0 w' b sz go L := by
  have hk : Kept (fun i => g = some i) w w' := Kept.of_grown hg (fun i e => e.symm)
  exact ⟨h.1.kept hk (fun i hi e => (hT i e).2 hi), h.2.1, Kept.below h.2.2 hk (fun i hi => (hT i hi).1) h.2.2.size⟩
/-- What the two sums are. -/
theorem limits_sums {lim : Int} {X : List Int} (hX : ∀ i, 0 ≤ X.getD i 0) (hl : 0 ≤ lim) (hm : lim ≤ 18446744073709551615) {n B r m : Nat} (hn : X.length = n) (hB : bat lim X = B) (hr : n - B = r) (hm2 : min r 1 = m) :
    ((B == 1) = true ∨ ((B == 1) = false ∧ decide (sumTo X B ≤ 18446744073709551615) = true ∧ (if sumTo X B ≤ 18446744073709551615 then sumTo X B else 0) ≤ lim)) ∧
    (r = 0 ∨ (0 < r ∧ (decide (sumTo X (B + m) ≤ 18446744073709551615) = false ∨ (decide (sumTo X (B + m) ≤ 18446744073709551615) = true ∧ lim < (if sumTo X (B + m) ≤ 18446744073709551615 then sumTo X (B + m) else 0))))) := by
  have hs := bat_stop lim X
  rw [hB] at hs
  obtain ⟨h1, h2, h3⟩ := hs
  refine ⟨?_, ?_⟩
  · by_cases hb : B = 1
    · exact .inl (by simp [hb])
    · refine .inr ⟨by simp [hb], ?_⟩
      have hle : sumTo X B ≤ lim := by
        rcases B with _ | _ | B
        · exact hl
        · omega
        · exact h2 (B + 1) (by omega) (by omega)
      rw [if_pos (by omega)]
      exact ⟨by simp; omega, hle⟩
  · by_cases h0 : r = 0
    · exact .inl h0
    · refine .inr ⟨by omega, ?_⟩
      obtain rfl : m = 1 := by omega
      have hgt := (h3 (by omega)).2
      by_cases hs : sumTo X (B + 1) ≤ 18446744073709551615
      · rw [if_pos hs, decide_eq_true hs]
        exact .inr ⟨rfl, hgt⟩
      · exact .inl (decide_eq_false hs)
set_option maxHeartbeats 3200000 in
theorem walk_ActivateLimits (a0 : Option Addr) (len0 cap0 : Nat) (z0 : List Int) (a1 : Int) (a2 : Option Addr) (len2 cap2 : Nat) (z2 : List Int) (w : World) (w0 : IsRow .i64 w a0 len0 cap0 z0) (w1 : (Lit.int .u64 a1).wf = true) (w2 : IsRow .u64 w a2 len2 cap2 z2) :
    Calls Try.prog 5 #[.slice a0 len0 cap0, .int .u64 a1, .slice a2 len2 cap2] w fun e w' => e = .returned (.bool true) ∧ Below w.heap.size w w' := by
  obtain ⟨hu, hl2, hm2, hA⟩ := UAt.of_row w2
  obtain ⟨hi, hl0, hc0, hm0⟩ := IntsAt.of_row (S := fun i => w.heap.size ≤ i) w0 (fun i h1 h2 => by omega)
  have hlim : Amt a1 := u64_of w1
  generalize z0.take len0 = I at *
  generalize z2.take len2 = L at *
  subst hl2
  have HU := Lib.hid hu
  have HI := Lib.hid hi
  have HA := Lib.hid (And.intro hA hlim)
  clear w0 w1 w2 hu hi hA hlim
  by_cases h0 : (60 : Int) < (len0 : Int)
  · go_enter Try.func5, Try.ntmps5
    go_wp2_with fail
    refine (alive_any _).mono ?_
    rintro e w1 ⟨rfl, hb⟩
    have HB := Lib.hid hb
    clear hb
    go_wp2_with fail
    go_ret
    exact ⟨rfl, HB.out⟩
  · by_cases h1 : (100 : Int) < (L.length : Int)
    · go_enter Try.func5, Try.ntmps5
      go_wp2_with fail
      refine (alive_any _).mono ?_
      rintro e w1 ⟨rfl, hb⟩
      have HB := Lib.hid hb
      clear hb
      go_wp2_with fail
      go_ret
      exact ⟨rfl, HB.out⟩
    · obtain ⟨i0, hi0, hy0, hy1, hy2⟩ := int_app
      have HQ := Lib.hid (queue_any (c := cap0) HI.out (by rw [hl0]; omega) (by rw [hl0]; exact hc0) hm0)
      rw [hl0] at HQ
      have hBl := bat_le (lim := a1) (I.map (wOf L))
      rw [List.length_map, hl0] at hBl
      have HXa : Hid (∀ i, 0 ≤ (I.map (wOf L)).getD i 0) := Lib.hid (fun i => (amts_map (I := I) (fun i => wOf_amt HA.out.1 i) i).1)
      obtain ⟨B, hB⟩ : ∃ B, bat a1 (I.map (wOf L)) = B := ⟨_, rfl⟩
      obtain ⟨r, hr⟩ : ∃ r, len0 - B = r := ⟨_, rfl⟩
      obtain ⟨m, hm⟩ : ∃ m, min r 1 = m := ⟨_, rfl⟩
      rw [hB] at hBl
      have HSM := Lib.hid (limits_sums HXa.out HA.out.2.1 HA.out.2.2 (by rw [List.length_map, hl0]) hB hr hm)
      have HBB := Lib.hid hB
      have HL0 := Lib.hid hl0
      have HR := Lib.hid (And.intro (show r + B = len0 by omega) (And.intro (show m ≤ r by omega) (show m ≤ 1 by omega)))
      have hmin : min (r : Int) 1 = (m : Int) := by omega
      have hmin2 : (if (1 : Int) < (r : Int) then (1 : Int) else (r : Int)) = (m : Int) := by split <;> omega
      have hmr : m ≤ r := by omega
      have hrl : r ≤ 60 := by omega
      have hBl6 : B ≤ 60 := by omega
      clear hl0 hB hr hm hBl
      go_enter Try.func5, Try.ntmps5
      go_wp2_with fail
      refine HQ.out.mono ?_
      rintro e w1 ⟨b, sz, go, rfl, hq⟩
      have HS := Lib.hid (hq.step (cap := cap2) (hq.uat HU.out) hm2 HA.out.1 HA.out.2)
      rw [HBB.out] at HS
      clear HQ hq
      go_wp2_with fail
      refine HS.out.mono ?_
      rintro e w2 ⟨a', c', rfl, hc1, hc2, hi2, hq2, -⟩
      have hIl : (I.take B).length = B := by rw [List.length_take, HL0.out]; have := HR.out.1; omega
      have hWt := rwsum_any (ic := c') (cap := cap2) (HU.out.below hq2.2.2) hm2 HA.out.1 hi2 (by rw [hIl]; omega)
      rw [hIl] at hWt
      unfold WeightPost at hWt
      rw [List.map_take, hIl, addQ, addOk, sumTo_take _ B B (Nat.le_refl _)] at hWt
      have HWt := Lib.hid hWt
      have HI2 := Lib.hid hi2
      have HQ2 := Lib.hid hq2
      clear HS hi2 hq2 hIl hWt
      obtain ⟨s1, hs1⟩ : ∃ s1, (if sumTo (I.map (wOf L)) B ≤ 18446744073709551615 then sumTo (I.map (wOf L)) B else 0) = s1 := ⟨_, rfl⟩
      obtain ⟨o1, ho1⟩ : ∃ o1, decide (sumTo (I.map (wOf L)) B ≤ 18446744073709551615) = o1 := ⟨_, rfl⟩
      obtain ⟨s2, hs2⟩ : ∃ s2, (if sumTo (I.map (wOf L)) (B + m) ≤ 18446744073709551615 then sumTo (I.map (wOf L)) (B + m) else 0) = s2 := ⟨_, rfl⟩
      obtain ⟨o2, ho2⟩ : ∃ o2, decide (sumTo (I.map (wOf L)) (B + m) ≤ 18446744073709551615) = o2 := ⟨_, rfl⟩
      rw [hs1, ho1, hs2, ho2] at HSM
      rw [hs1, ho1] at HWt
      have HS2 := Lib.hid (And.intro hs2 ho2)
      clear hs1 ho1 hs2 ho2
      go_wp2_with fail
      refine HWt.out.mono ?_
      rintro e w3 ⟨rfl, hb3⟩
      have HI3 := Lib.hid (HI2.out.below hb3)
      have HQ3 := Lib.hid (HQ2.out.below hb3)
      clear hb3 HWt HI2 HQ2
      have HE4 : Hid ((w3.alloc (.cells #[] 3)).ownsRow w3.heap.size 3 1 (.slice (some ⟨w3.heap.size, 0, none⟩) 0 0) 0 []) := Lib.hid (owns_empty (Blk.new w3 3 #[]) (Nat.le_refl _))
      have HI4 := Lib.hid (HI3.out.below ((Below.refl _ w3).alloc (Nat.le_refl _) (.cells #[] 3)))
      have HQ4 := Lib.hid (HQ3.out.alloc (.cells #[] 3))
      have HF : Hid (∀ i, w3.heap.size ≤ i → w.heap.size ≤ i ∧ ¬ Foot b go i) := Lib.hid (fun i hi => ⟨Nat.le_trans HQ3.out.2.2.size hi, fun hf => by have := HQ3.out.1.lt i hf; omega⟩)
      have HSZ : Hid (w3.heap.size ≤ (w3.alloc (.cells #[] 3)).heap.size) := Lib.hid (by simp)
      have hl1 : ∀ (J : List Int), ∀ u ∈ J.map (Value.int .i64), u.oneCell' = true := fun J u hu => by
        obtain ⟨x, _, rfl⟩ := List.mem_map.1 hu
        rfl
      have HL1 := Lib.hid hl1
      have HT := Lib.hid (And.intro (show (I.take B).length = B by rw [List.length_take, HL0.out]; have := HR.out.1; omega) (And.intro (show (I.drop B).length = r by rw [List.length_drop, HL0.out]; have := HR.out.1; omega) (show I.take B ++ (I.drop B).take m = I.take (B + m) by rw [List.take_add])))
      clear HI3 HQ3 hl1
      go_wp2_with (first
        | (at_builtin; refine wpList_append_src _ rfl (.tmp 38) (.tmp 39) 22 rfl w3.heap.size 3 i0 _ 1 8 Try.underlying22 hi0 hy0 hy1 hy2 rfl Nat.one_pos _ 0 [] rfl HE4.out a' B c' ((I.take B).map (Value.int .i64)) rfl (by rw [List.length_map, HT.out.1, Nat.mul_one]) (fun h0 => by obtain ⟨ad, e, _, hc⟩ := HI4.out.src.2.2 (by rw [HT.out.1]; exact h0); exact ⟨ad, e, hc⟩) (HL1.out _) (by unfold maxLen; omega) (by omega) HSZ.out ?_; intro v5 w5 ho5 hg5 _; rw [Nat.zero_add, List.nil_append] at ho5; have HQ5 : Hid (QOwn w w5 b sz go (I.drop B)) := Lib.hid (HQ4.out.grown hg5 (fun i e => HF.out i (HE4.out.lt i e).1)); have HO5 := Lib.hid ho5; have HZ5 : Hid (w3.heap.size ≤ w5.heap.size) := Lib.hid (Nat.le_trans HSZ.out hg5.size); clear ho5 hg5 HI4 HQ4 HE4 HSZ)
        | (go_at_call 14; refine HQ5.out.all.mono ?_; rintro e w6 ⟨rfl, hi6, hq6, hb6⟩; rw [HT.out.2.1]; have HO6 := Lib.hid (owns_same (W' := w6) HO5.out (fun i e => hb6.block i (HO5.out.lt i e).2)); have HI6 := Lib.hid (IntsAt.take hi6 (show m ≤ (I.drop B).length by rw [HT.out.2.1]; exact hmr)); have HQ6 := Lib.hid hq6; have HLN6 := Lib.hid hq6.len; rw [HT.out.2.1] at HLN6; have HZ6 : Hid (w3.heap.size ≤ w6.heap.size) := Lib.hid (Nat.le_trans HZ5.out hb6.size); clear hi6 hq6 hb6 HO5 HQ5 HZ5)
        | (go_at_call 15; refine HLN6.out.mono ?_; rintro e w' ⟨rfl, rfl⟩)
        | (at_builtin; refine wpList_append_src _ rfl (.tmp 40) (.tmp 46) 22 rfl w3.heap.size 3 i0 _ 1 8 Try.underlying22 hi0 hy0 hy1 hy2 rfl Nat.one_pos _ B _ rfl HO6.out (some ⟨w5.heap.size, 0, none⟩) m r (((I.drop B).take m).map (Value.int .i64)) rfl (by rw [List.length_map, List.length_take, HT.out.2.1]; omega) (fun h0 => by obtain ⟨ad, e, _, hc⟩ := HI6.out.src.2.2 (by rw [List.length_take, HT.out.2.1]; omega); exact ⟨ad, e, hc⟩) (HL1.out _) (by unfold maxLen; omega) (by omega) HZ6.out ?_; intro v7 w7 ho7 hg7 _; rw [← List.map_append, HT.out.2.2] at ho7; have HQ7 : Hid (QOwn w w7 b sz go (I.drop B)) := Lib.hid (HQ6.out.grown hg7 (fun i e => HF.out i (HO6.out.lt i e).1)); obtain ⟨a7, c7, rfl, hl7, -, -, hi7⟩ := ints_of_owns (S := fun _ => False) ho7 (fun _ _ h => h); have HW7 := Lib.hid (rwsum_any (ic := c7) (cap := cap2) (HU.out.below HQ7.out.2.2) hm2 HA.out.1 hi7 (by omega)); rw [hl7] at HW7; clear ho7 hg7 hi7 HO6 HI6 HQ6 HLN6 HZ6))
      have HW8 := HW7.out
      unfold WeightPost at HW8
      rw [List.map_take, hl7, addQ, addOk, sumTo_take _ (B + m) (B + m) (Nat.le_refl _), HS2.out.1, HS2.out.2] at HW8
      have HW8 := Lib.hid HW8
      have HLT := HT.out.2.1
      have HLR := Lib.hid HLT
      clear HW7 HT HL1 HF hl7 HLT
      refine HW8.out.mono ?_
      rintro e w8 ⟨rfl, hb8⟩
      have HQ8 := Lib.hid (HQ7.out.below hb8)
      clear hb8 HW8 HQ7 HS2
      obtain ⟨hp, hq⟩ := HSM.out
      have hpp : ((B : Int) == 1) = (B == 1) := by rw [Bool.eq_iff_iff]; simp; omega
      rw [← hpp] at hp
      clear HSM hpp
      rcases hp with hb1 | ⟨hb1, rfl, hle⟩
      · rcases hq with hr0 | ⟨hr0, rfl | ⟨rfl, hgt⟩⟩
        · have hrz : ((r : Int) == 0) = true := by simp; omega
          clear hr0
          go_wp2_with fail
          refine (alive_any _).mono ?_
          rintro e w9 ⟨rfl, hb9⟩
          have HQ9 := Lib.hid (HQ8.out.below hb9)
          have HLN := Lib.hid HQ9.out.len
          rw [HLR.out] at HLN
          clear hb9 HQ8
          go_wp2_with fail
          refine HLN.out.mono ?_
          rintro e w' ⟨rfl, rfl⟩
          go_wp2
          go_ret
          exact ⟨rfl, HQ9.out.2.2⟩
        · have hrz : ((r : Int) == 0) = false := by simp; omega
          clear hr0
          go_wp2_with fail
          refine (alive_any _).mono ?_
          rintro e w9 ⟨rfl, hb9⟩
          have HQ9 := Lib.hid (HQ8.out.below hb9)
          have HLN := Lib.hid HQ9.out.len
          rw [HLR.out] at HLN
          clear hb9 HQ8
          go_wp2_with fail
          refine HLN.out.mono ?_
          rintro e w' ⟨rfl, rfl⟩
          go_wp2
          go_ret
          exact ⟨rfl, HQ9.out.2.2⟩
        · have hrz : ((r : Int) == 0) = false := by simp; omega
          have hgd : decide (a1 < s2) = true := by simp; omega
          clear hr0
          go_wp2_with fail
          refine (alive_any _).mono ?_
          rintro e w9 ⟨rfl, hb9⟩
          have HQ9 := Lib.hid (HQ8.out.below hb9)
          have HLN := Lib.hid HQ9.out.len
          rw [HLR.out] at HLN
          clear hb9 HQ8
          go_wp2_with fail
          refine HLN.out.mono ?_
          rintro e w' ⟨rfl, rfl⟩
          go_wp2
          go_ret
          exact ⟨rfl, HQ9.out.2.2⟩
      · have hled : decide (s1 ≤ a1) = true := by simp; omega
        rcases hq with hr0 | ⟨hr0, rfl | ⟨rfl, hgt⟩⟩
        · have hrz : ((r : Int) == 0) = true := by simp; omega
          clear hr0
          go_wp2_with fail
          refine (alive_any _).mono ?_
          rintro e w9 ⟨rfl, hb9⟩
          have HQ9 := Lib.hid (HQ8.out.below hb9)
          have HLN := Lib.hid HQ9.out.len
          rw [HLR.out] at HLN
          clear hb9 HQ8
          go_wp2_with fail
          refine HLN.out.mono ?_
          rintro e w' ⟨rfl, rfl⟩
          go_wp2
          go_ret
          exact ⟨rfl, HQ9.out.2.2⟩
        · have hrz : ((r : Int) == 0) = false := by simp; omega
          clear hr0
          go_wp2_with fail
          refine (alive_any _).mono ?_
          rintro e w9 ⟨rfl, hb9⟩
          have HQ9 := Lib.hid (HQ8.out.below hb9)
          have HLN := Lib.hid HQ9.out.len
          rw [HLR.out] at HLN
          clear hb9 HQ8
          go_wp2_with fail
          refine HLN.out.mono ?_
          rintro e w' ⟨rfl, rfl⟩
          go_wp2
          go_ret
          exact ⟨rfl, HQ9.out.2.2⟩
        · have hrz : ((r : Int) == 0) = false := by simp; omega
          have hgd : decide (a1 < s2) = true := by simp; omega
          clear hr0
          go_wp2_with fail
          refine (alive_any _).mono ?_
          rintro e w9 ⟨rfl, hb9⟩
          have HQ9 := Lib.hid (HQ8.out.below hb9)
          have HLN := Lib.hid HQ9.out.len
          rw [HLR.out] at HLN
          clear hb9 HQ8
          go_wp2_with fail
          refine HLN.out.mono ?_
          rintro e w' ⟨rfl, rfl⟩
          go_wp2
          go_ret
          exact ⟨rfl, HQ9.out.2.2⟩
end Go.Proofs.Ytcjohlbglbcglaa
