/- The reference's Step. -/
import Derived.Test.YtcjohlbglbcglaaBat
import Derived.Test.YtcjohlbglbcglaaWeight
import Derived.Test.YtcjohlbglbcglaaUOwn
import Derived.Test.YtcjohlbglbcglaaBnd
namespace Go.Proofs.Ytcjohlbglbcglaa
open Go Go.RowKit
set_option linter.unusedVariables false
set_option linter.unusedSimpArgs false
set_option maxRecDepth 100000

theorem sumTo_take (X : List Int) : ∀ (k n : Nat), k ≤ n → sumTo (X.take n) k = sumTo X k
  | 0, n, _ => rfl
  | k + 1, n, h => by
    rw [sumTo, sumTo, sumTo_take X k n (by omega)]
    congr 1
    simp [List.getD_eq_getElem?_getD, List.getElem?_take_of_lt (show k < n by omega)]
section
variable {w : World} {S S2 : Nat → Prop} {a ia : Option Addr} {Lw I : List Int} {cap ic : Nat} {lim : Int}
set_option maxHeartbeats 1000000 in
theorem rstep_any (hu : UAt w S a Lw) (hL : Lw.length ≤ 9223372036854775807) (hA : Amts Lw) (hi : IntsAt w S2 ia I) (hn : I.length ≤ 100000) (hic : I.length ≤ ic) (hicc : ic ≤ 9223372036854775807) (hl : Amt lim) :
    Calls Try.prog 12 #[.slice ia I.length ic, .int .u64 lim, .slice a Lw.length cap] w fun e w' => e = .returned (.int .i64 (bat lim (I.map (wOf Lw)) : Int)) ∧ Below w.heap.size w w' := by
  have hXl : (I.map (wOf Lw)).length = I.length := List.length_map ..
  have HX := Lib.hid hXl
  have HU := Lib.hid hu
  have HL := Lib.hid hL
  have HA := Lib.hid hA
  have HI := Lib.hid hi
  have HLM := Lib.hid hl.2
  obtain ⟨n, hn'⟩ : ∃ n, I.length = n := ⟨_, rfl⟩
  have HN := Lib.hid hn'
  rw [hn'] at hn hic ⊢
  clear hu hL hA hi hn' hXl hl
  go_enter Try.func12, Try.ntmps12
  go_wp2
  go_loopw [7] (fun s7 wr => ∃ k : Nat, k ≤ n ∧ s7 = .int .i64 k ∧ Hid (∀ m, 0 < m → m < k → sumTo (I.map (wOf Lw)) (m + 1) ≤ lim) ∧ Hid (Below w.heap.size w wr)) (fun s7 _ => n - (intOf s7).toNat)
  case atStart => exact ⟨0, by omega, rfl, Lib.hid (fun m h1 h2 => by omega), Lib.hid (Below.refl _ _)⟩
  case round =>
    obtain ⟨k, hk, rfl, HK, HB⟩ := hrel
    by_cases hlt : k < n
    · have hlen : (I.take (k + 1)).length = k + 1 := by rw [List.length_take, HN.out]; omega
      have hw := rwsum_any (ic := ic) (cap := cap) (HU.out.below HB.out) HL.out HA.out (IntsAt.take (HI.out.below HB.out) (show k + 1 ≤ I.length by rw [HN.out]; omega)) (by rw [hlen]; omega)
      rw [hlen] at hw
      unfold WeightPost at hw
      rw [List.map_take, hlen, addQ, addOk, sumTo_take _ (k + 1) (k + 1) (Nat.le_refl _)] at hw
      have HE := Lib.hid (fun (h0 : 0 < k) (h : lim < sumTo (I.map (wOf Lw)) (k + 1)) => Stp.bat (lim := lim) (X := I.map (wOf Lw)) (n := k) ⟨by rw [HX.out, HN.out]; exact hk, HK.out, fun _ => ⟨h0, h⟩⟩)
      have HG := Lib.hid (fun (h0 : k = 0 ∨ sumTo (I.map (wOf Lw)) (k + 1) ≤ lim) m (h1 : 0 < m) (h2 : m < k + 1) => show sumTo (I.map (wOf Lw)) (m + 1) ≤ lim from by
        by_cases e : m = k
        · subst e; omega
        · exact HK.out m h1 (by omega))
      generalize sumTo (I.map (wOf Lw)) (k + 1) = s at hw HE HG
      clear hlen
      by_cases h0 : k = 0
      · have hk0 : ((0 : Int) < (k : Int)) = False := by simp; omega
        have hk1 : decide ((0 : Int) < (k : Int)) = false := by simp; omega
        have hk2 : decide (0 < k) = false := by simp; omega
        have hk3 : ¬ 0 < k := by omega
        generalize (if s ≤ 18446744073709551615 then s else 0) = q at hw
        generalize decide (s ≤ 18446744073709551615) = ok at hw
        have HW := Lib.hid hw
        have HGG := Lib.hid (HG.out (.inl h0))
        clear hw HG HE h0 hk0
        go_wp2_with fail
        refine HW.out.mono ?_
        rintro e w1 ⟨rfl, b1⟩
        have HB1 := Lib.hid (HB.out.trans (b1.mono HB.out.size))
        clear b1 HW HB
        go_wp2
        go_roundw
        case rel => exact ⟨k + 1, by omega, by go_num, HGG, HB1⟩
        case measure => simp [intOf]; omega
      · have hk1 : decide ((0 : Int) < (k : Int)) = true := by simp; omega
        have hk3 : 0 < k := by omega
        by_cases ho : s ≤ 18446744073709551615
        · rw [if_pos ho, decide_eq_true ho] at hw
          have HW := Lib.hid hw
          by_cases hs : lim < s
          · have HEE := Lib.hid (HE.out (by omega) hs)
            have hs1 : decide (lim < s) = true := by simp; omega
            clear hw HG HE h0 ho
            go_wp2_with fail
            refine HW.out.mono ?_
            rintro e w1 ⟨rfl, b1⟩
            have HB1 := Lib.hid (HB.out.trans (b1.mono HB.out.size))
            clear b1 HW HB
            go_wp2
            go_ret
            exact ⟨by rw [← HEE.out]; rfl, HB1.out⟩
          · have hs1 : decide (lim < s) = false := by simp; omega
            have HGG := Lib.hid (HG.out (.inr (by omega)))
            clear hw HG HE h0 ho
            go_wp2_with fail
            refine HW.out.mono ?_
            rintro e w1 ⟨rfl, b1⟩
            have HB1 := Lib.hid (HB.out.trans (b1.mono HB.out.size))
            clear b1 HW HB
            go_wp2
            go_roundw
            case rel => exact ⟨k + 1, by omega, by go_num, HGG, HB1⟩
            case measure => simp [intOf]; omega
        · rw [if_neg ho, decide_eq_false ho] at hw
          have HW := Lib.hid hw
          have HEE := Lib.hid (HE.out (by omega) (by have := HLM.out; omega))
          clear hw HG HE h0 ho
          go_wp2_with fail
          refine HW.out.mono ?_
          rintro e w1 ⟨rfl, b1⟩
          have HB1 := Lib.hid (HB.out.trans (b1.mono HB.out.size))
          clear b1 HW HB
          go_wp2
          go_ret
          exact ⟨by rw [← HEE.out]; rfl, HB1.out⟩
    · obtain rfl : k = n := by omega
      have HE := Lib.hid (Stp.bat (lim := lim) (X := I.map (wOf Lw)) (n := k) ⟨by rw [HX.out, HN.out]; exact hk, HK.out, fun h => by rw [HX.out, HN.out] at h; omega⟩)
      clear hlt
      have hlt : ¬ k < k := by omega
      go_wp2
      go_ret
      exact ⟨by rw [← HE.out]; rfl, HB.out⟩
end
end Go.Proofs.Ytcjohlbglbcglaa
