/- The walk of AssignBounds. -/
import Derived.Test.YtkeclanbebiogaaBegin
import Derived.OpenShut
import Derived.Outline
namespace Go.Proofs.Ytkeclanbebiogaa
open Go Go.RowKit Go.OpenShut
set_option linter.unusedVariables false
set_option linter.unusedSimpArgs false
set_option maxRecDepth 100000

set_option maxHeartbeats 6400000 in
theorem walk_AssignBounds (a0 : Option Addr) (len0 cap0 : Nat) (a1 : Option Addr) (len1 cap1 : Nat) (z1 : List Int) (w : World) (w0 : IsRounds w a0 len0 cap0) (w1 : IsRow .u64 w a1 len1 cap1 z1) :
    Calls Try.prog 4 #[.slice a0 len0 cap0, .slice a1 len1 cap1] w fun e w' => e = .returned (.bool true) ∧ Below w.heap.size w w' := by
  obtain ⟨hlc, hcm, R, hR⟩ := w0
  have hl0 : len0 ≤ 9223372036854775807 := by unfold maxLen at hcm; omega
  obtain ⟨hu, hl1, hm1, hA⟩ := UAt.of_row w1
  generalize z1.take len1 = L at *
  subst hl1
  have HR := Lib.hid hR
  have HU := Lib.hid hu
  have HA := Lib.hid hA
  have HF := Lib.hid (few_any a0 len0 cap0 R w hR hl0)
  have HN := Lib.hid (fun w => new_some 8 w (by omega) (by omega))
  clear w1 hR hu hA hlc hcm
  go_enter Try.func4, Try.ntmps4
  go_wp2_with fail
  refine HF.out.mono ?_
  rintro e w1 ⟨r, rfl, hr, hb⟩
  have HB1 := Lib.hid hb
  have HFR := Lib.hid hr
  clear hb hr HF
  cases r
  · go_wp2_with fail
    refine (alive_any _).mono ?_
    rintro e w3 ⟨rfl, hb⟩
    have HB := Lib.hid (HB1.out.trans (hb.mono HB1.out.size))
    clear hb
    go_wp2_with fail
    go_ret
    exact ⟨rfl, HB.out⟩
  · by_cases h100 : (100 : Int) < (L.length : Int)
    · go_wp2_with fail
      refine (alive_any _).mono ?_
      rintro e w3 ⟨rfl, hb⟩
      have HB := Lib.hid (HB1.out.trans (hb.mono HB1.out.size))
      clear hb
      go_wp2_with fail
      go_ret
      exact ⟨rfl, HB.out⟩
    · have h40 := (HFR.out rfl).1
      clear HFR
      go_wp2_with fail
      refine (HN.out _).mono ?_
      rintro e w2 ⟨rfl, ⟨S1, q1, q2⟩, q3⟩
      have Q := Lib.hid (And.intro q1 (And.intro q2 q3))
      clear q1 q2 q3 HN
      go_wp2_with fail
      refine (new_at _).mono ?_
      rintro e w3 ⟨rfl, m1, m2, m3⟩
      have LW := Lib.hid (law_new (w0 := w) (nn := 8) Q.out.1 (fun i hi => Nat.le_trans HB1.out.size (Q.out.2.1 i hi)) (HB1.out.trans (Q.out.2.2.mono HB1.out.size)) m1 m2 m3 (by omega))
      clear m1 m2 m3 Q HB1
      go_wp2_with fail
      generalize w3.alloc (.cells #[.slice none 0 0, .slice none 0 0, .int .i64 8] 33) = w4 at *
      generalize w1.heap.size = b at *
      generalize w2.heap.size = m at *
      generalize w3.heap.size = d at *
      go_loopw [38] (fun s38 wr => ∃ (k : Nat) (S : Nat → Prop) (F V RF RV : List Int) (B Sp : Int), k ≤ len0 ∧ s38 = .int .i64 k ∧ Hid (Law w wr b m d 8 S (fun i => i = m) F V RF RV B Sp ∧ B ≤ (k : Int) * 1125899906842624)) (fun s38 _ => len0 - (intOf s38).toNat)
      case atStart => exact ⟨0, S1, [], [], [], [], 0, 0, by omega, rfl, Lib.hid ⟨LW.out, by omega⟩⟩
      case round =>
        clear LW
        obtain ⟨k, S, F, V, RF, RV, B, Sp, hk, rfl, HL⟩ := hrel
        by_cases hkl : k < len0
        · obtain ⟨rb, ro, rfl, hrb, hx, hrn⟩ := HR.out.at HL.out.1.bel hkl
          have hrnd : RndAt w (fun _ => False) (R k) := by
            obtain ⟨_, _, e, _, hc⟩ := HR.out (by omega)
            exact (hc k hkl).2
          generalize R k = r at *
          have HRN := Lib.hid hrnd
          have HLR := Lib.hid (HL.out.1.alloc (.cells (cellsR r) 39))
          have HBK : Hid (Blk (wr.alloc (.cells (cellsR r) 39)) wr.heap.size 39 (cellsR r)) := Lib.hid (Blk.new wr _ _)
          have HZ : Hid (¬ S wr.heap.size ∧ wr.heap.size ≠ d ∧ wr.heap.size ≠ m) := Lib.hid ⟨fun e => Nat.lt_irrefl _ (HL.out.1.1.1.lt _ e), fun e => by have := HL.out.1.2.1.lt; omega, fun e => by have := HL.out.1.1.mlt; omega⟩
          have HBB := Lib.hid HL.out.2
          have HB0 := Lib.hid HL.out.1.1.bal
          have x2 : (wr.alloc (.cells (cellsR r) 39)).cell? ⟨wr.heap.size, 2, none⟩ = some (.int .u64 r.lim) := HBK.out.cell 2
          obtain ⟨_, _, _, _, lm0, lm1⟩ := hrnd
          clear HL hrn
          by_cases hlim : (1125899906842624 : Int) < r.lim
          · go_wp2_with (first | (refine wpList_load_rnd rfl 39 _ rfl rb (ro + k * 3) rfl r _ hx.out Try.underlying39 rfl infoR ?_) | (refine wpList_store_row rfl _ _ _ rfl wr.heap.size (cellsR r) rfl rfl 39 _ (heap_alloc_new wr _) infoR rfl (cellsR_one r) ?_; rw [World.setRow_alloc_new]))
            refine (alive_any _).mono ?_
            rintro e w5 ⟨rfl, hb⟩
            have HB := Lib.hid (HLR.out.below hb).bel
            clear hb HLR HBK x2
            go_wp2_with fail
            go_ret
            exact ⟨rfl, HB.out⟩
          · go_wp2_with (first | (refine wpList_load_rnd rfl 39 _ rfl rb (ro + k * 3) rfl r _ hx.out Try.underlying39 rfl infoR ?_) | (refine wpList_store_row rfl _ _ _ rfl wr.heap.size (cellsR r) rfl rfl 39 _ (heap_alloc_new wr _) infoR rfl (cellsR_one r) ?_; rw [World.setRow_alloc_new]) | (refine wpList_load_row rfl 39 _ rfl wr.heap.size rfl 39 (cellsR r) (0, 0) _ HBK.out Try.underlying39 rfl infoR ?_))
            refine (push_round r HLR.out HRN.out).mono ?_
            rintro e w5 ⟨rfl, S5, L5, K5, G5⟩
            have x5 : Hid (w5.cell? ⟨wr.heap.size, 2, none⟩ = some (.int .u64 r.lim) ∧ ¬ S5 wr.heap.size) := Lib.hid ⟨K5.out.cell (fun e => e.elim HZ.out.1 HZ.out.2.1) x2, fun e => (G5.out _ e).elim HZ.out.1 (fun e => by simp at e; omega)⟩
            clear x2 HLR HBK K5 G5 hx HRN
            generalize pAll 8 F r.F = F5 at *
            generalize pAll 8 V r.V = V5 at *
            generalize pAll 8 RF r.F = RF5 at *
            generalize pAll 8 RV r.V = RV5 at *
            go_wp2_with fail
            refine L5.out.1.balance.mono ?_
            rintro e w6 ⟨rfl, q, hq⟩
            have L6 : Hid (Law w w6 b m d 8 S5 (fun i => i = m) F5 V5 RF5 RV5 B Sp) := Lib.hid (hq ▸ L5.out.drewN q)
            have x6 : Hid (w6.cell? ⟨wr.heap.size, 2, none⟩ = some (.int .u64 r.lim) ∧ ¬ S5 wr.heap.size) := Lib.hid (hq ▸ x5.out)
            have x6c := x6.out.1
            clear hq L5 x5
            generalize r.lim = lim at *
            have hB40 : B + lim ≤ 46161896180547584 := by have := HBB.out; omega
            have hBn := HB0.out.1
            have ho : ∀ i, 0 ≤ wOf L i := fun i => (wOf_amt HA.out i).1
            have hf := stp_facts ho F5 V5 (B := B) (x := lim) hBn lm0 (by omega)
            have hs := L6.out.step (x := lim) (ep := k) (cap := cap1) (HU.out.below L6.out.bel) (by omega) HA.out lm0 (by omega) (by omega)
            have HS := Lib.hid hs
            have HLF : Hid ((stp (wOf L) F5 V5 B lim).1.length ≤ 16) := Lib.hid (by
              have := asg_len (wOf L) F5 V5 (gr B lim)
              have h8 := L6.out.1.1.size
              unfold stp
              omega)
            clear hs
            have HO := Lib.hid ho
            have HFA := Lib.hid hf
            clear ho hf
            generalize stp (wOf L) F5 V5 B lim = rr at *
            obtain ⟨out, F7, V7, B7⟩ := rr
            dsimp only at *
            have HTOT := Lib.hid (And.intro HFA.out.1 HFA.out.2.1)
            go_wp2_with fail
            refine HS.out.mono ?_
            rintro e w7 ⟨a7, c7, S7, he, L7', G7, A7, K7⟩
            change e = .returned (.slice a7 out.length c7) at he
            subst he
            have L7 : Hid (Law w w7 b m d 8 S7 (fun i => i = m) F7 V7 RF5 RV5 (balOf (out, F7, V7, B7)) (sumW (wOf L) out)) := L7'
            have x7 : Hid (w7.cell? ⟨wr.heap.size, 2, none⟩ = some (.int .u64 lim)) := Lib.hid (K7.out.cell (fun e => e.elim HZ.out.2.2 x6.out.2) x6c)
            have A8 : Hid (AAt w7 (fun _ => False) a7 ((k : Int) + 1) out) := Lib.hid (A7.out.other (fun _ _ h => h.elim))
            have U7 := Lib.hid (HU.out.below L7.out.bel)
            clear HS L7' G7 A7 K7 x6c x6 L6 HZ
            generalize balOf (out, F7, V7, B7) = bl at *
            obtain ⟨no, hno⟩ : ∃ no, out.length = no := ⟨_, rfl⟩
            rw [hno] at HLF
            rw [hno]
            have HNO := Lib.hid hno
            have hno16 := HLF.out
            clear hno HLF
            obtain ⟨z, hz⟩ : ∃ z, wr.heap.size = z := ⟨_, rfl⟩
            rw [hz] at x7 ⊢
            clear hz
            obtain ⟨wo, hwo⟩ : ∃ wo, wo = wr := ⟨_, rfl⟩
            subst hwo
            go_wp2_with fail
            go_loopw [11, 61] (fun s11 s61 wi => ∃ j : Nat, j ≤ no ∧ s61 = .int .i64 j ∧ s11 = .int .u64 (sumW (wOf L) (out.take j)) ∧ Hid (Below w7.heap.size w7 wi)) (fun _ s61 _ => no - (intOf s61).toNat)
            case atStart => exact ⟨0, by omega, rfl, rfl, Lib.hid (Below.refl _ _)⟩
            case round =>
              obtain ⟨j, hj, rfl, rfl, HI⟩ := hrel
              by_cases hjn : j < no
              · obtain ⟨p, hp⟩ : ∃ p, out[j]? = some p := ⟨_, List.getElem?_eq_getElem (by rw [HNO.out]; exact hjn)⟩
                obtain ⟨ab, ao, rfl, _, hab, hac⟩ := A8.out (by rw [HNO.out]; omega)
                have R1 : Hid (wr.rangeAt ab (ao + j * 3) (rowT p.1 p.2 ((k : Int) + 1))) := Lib.hid (fun i u hu => (HI.out.cell (p := ⟨ab, ao + j * 3 + i, none⟩) hab).trans (hac j p hp i u hu))
                have hst := sumW_take_succ (wOf L) hp
                have hst0 := sumW_nonneg HO.out (out.take j)
                have hst1 := sumW_take_le HO.out out (j + 1)
                have hw0 := HO.out p.1
                obtain ⟨pi, pc⟩ := p
                dsimp only at hst hst1 hw0 R1
                have HW8 : Hid (Below w7.heap.size w7 (wr.alloc (.cells (cellsT pi pc ((k : Int) + 1)) 51))) := Lib.hid (HI.out.alloc HI.out.size _)
                have y0 : (wr.alloc (.cells (cellsT pi pc ((k : Int) + 1)) 51)).cell? ⟨wr.heap.size, 0, none⟩ = some (.int .i64 pi) := (Blk.new wr _ (cellsT pi pc ((k : Int) + 1))).cell 0
                have HOF := Lib.hid (of_any cap1 pi _ (U7.out.below HW8.out) hm1)
                obtain ⟨s, hs⟩ : ∃ s, sumW (wOf L) (out.take j) = s := ⟨_, rfl⟩
                obtain ⟨s2, hs2⟩ : ∃ s2, sumW (wOf L) (out.take (j + 1)) = s2 := ⟨_, rfl⟩
                have HS2 := Lib.hid hs2
                rw [hs, hs2] at hst
                rw [hs] at hst0 ⊢
                rw [hs2] at hst1
                generalize wOf L pi = x at *
                have hsum : s + x = s2 := hst.symm
                have hs2b : s2 ≤ 46161896180547584 := by have := HTOT.out.2; omega
                clear hs hs2 hst hst1 hac hp HI
                go_wp2_with (first
                  | (refine wpList_load_mid rfl 51 _ rfl ab (ao + j * 3) rfl (rowT pi pc ((k : Int) + 1)) _ R1.out Try.underlying51 rfl infoAs ?_)
                  | (refine wpList_store_row rfl _ _ _ rfl wr.heap.size (cellsT pi pc ((k : Int) + 1)) rfl rfl 51 _ (heap_alloc_new wr _) infoAs rfl (cellsT_one _ _ _) ?_; rw [World.setRow_alloc_new]))
                refine HOF.out.mono ?_
                rintro e w8 ⟨rfl, rfl⟩
                clear HOF R1
                go_wp2_with fail
                go_roundw
                case rel => exact ⟨j + 1, by omega, by go_num, by rw [HS2.out], HW8⟩
                case measure => simp [intOf]; omega
              · obtain rfl : j = no := by omega
                clear hjn
                have hjn : ¬ j < j := by omega
                have hall : out.take j = out := List.take_of_length_le (by rw [HNO.out]; exact Nat.le_refl _)
                rw [hall]
                have L8 := Lib.hid (L7.out.below HI.out)
                have x8 : wr.cell? ⟨z, 2, none⟩ = some (.int .u64 lim) := (HI.out.cell (p := ⟨z, 2, none⟩) (cell_lt x7.out)).trans x7.out
                have X8 := Lib.hid x8
                have U8 := Lib.hid (HU.out.below L8.out.bel)
                generalize sumW (wOf L) out = st at *
                clear hall L7 U7 A8 HI x8
                go_wp2_with fail
                refine L8.out.1.head.mono ?_
                rintro e w9 ⟨rfl, q9, hq9⟩
                have L9 : Hid (Law w w9 b m d 8 S7 (fun i => i = m) F7 V7 RF5 RV5 bl st) := Lib.hid (hq9 ▸ L8.out.drewN q9)
                have x9 : w9.cell? ⟨z, 2, none⟩ = some (.int .u64 lim) := hq9 ▸ X8.out
                have U9 : Hid (UAt w9 (fun i => w.heap.size ≤ i) a1 L) := Lib.hid (hq9 ▸ U8.out.drewN q9)
                clear hq9 L8 X8 U8
                have hno2 : ¬ B + lim < st := by have := HTOT.out.2; omega
                have hBl : bl ≤ B + lim := HFA.out.2.2.2.1
                have hbl0 : 0 ≤ bl := HFA.out.2.2.1
                have HBL : Hid (bl ≤ ((k + 1 : Nat) : Int) * 1125899906842624) := Lib.hid (by have := HBB.out; omega)
                obtain ⟨t7, ht7⟩ : ∃ t7, hdB F7 V7 = t7 := ⟨_, rfl⟩
                have HT7 := Lib.hid ht7
                rw [ht7]
                cases t7
                · have hz0 : bl = 0 := HFA.out.2.2.2.2.2 ht7
                  clear HFA ht7
                  have L10 := Lib.hid L9.out
                  subst hz0
                  go_wp2_with fail
                  refine L9.out.1.spent.mono ?_
                  rintro e w10 ⟨rfl, q10, hq10⟩
                  have L11 : Hid (Law w w10 b m d 8 S7 (fun i => i = m) F7 V7 RF5 RV5 0 st) := Lib.hid (hq10 ▸ L9.out.drewN q10)
                  clear hq10 L9 L10 x9 U9
                  go_wp2_with fail
                  refine L11.out.1.balance.mono ?_
                  rintro e w11 ⟨rfl, q11, hq11⟩
                  have L12 : Hid (Law w w11 b m d 8 S7 (fun i => i = m) F7 V7 RF5 RV5 0 st ∧ 0 ≤ ((k + 1 : Nat) : Int) * 1125899906842624) := Lib.hid ⟨hq11 ▸ L11.out.drewN q11, HBL.out⟩
                  clear hq11 L11
                  go_wp2_with fail
                  go_roundw
                  case rel => exact ⟨k + 1, S7, F7, V7, RF5, RV5, 0, st, by omega, by go_num, L12⟩
                  case measure => simp [intOf]; omega
                · have hlt7 := HFA.out.2.2.2.2.1 ht7
                  clear HFA ht7
                  have HOF := Lib.hid (fun w10 (hb : Below w9.heap.size w9 w10) => of_any cap1 (hdI F7 V7) w10 (U9.out.below hb) hm1)
                  generalize wOf L (hdI F7 V7) = y at *
                  have hny : ¬ y ≤ bl := by omega
                  clear hlt7
                  go_wp2_with fail
                  refine L9.out.1.spent.mono ?_
                  rintro e w10 ⟨rfl, q10, hq10⟩
                  have L11 : Hid (Law w w10 b m d 8 S7 (fun i => i = m) F7 V7 RF5 RV5 bl st ∧ Below w9.heap.size w9 w10) := Lib.hid ⟨hq10 ▸ L9.out.drewN q10, hq10 ▸ below_drewN (Below.refl _ _) q10⟩
                  clear hq10 L9 x9 U9
                  go_wp2_with fail
                  refine L11.out.1.1.balance.mono ?_
                  rintro e w11 ⟨rfl, q11, hq11⟩
                  have L12 : Hid (Law w w11 b m d 8 S7 (fun i => i = m) F7 V7 RF5 RV5 bl st ∧ bl ≤ ((k + 1 : Nat) : Int) * 1125899906842624) := Lib.hid ⟨hq11 ▸ L11.out.1.drewN q11, HBL.out⟩
                  have B11 : Hid (Below w9.heap.size w9 w11) := Lib.hid (hq11 ▸ below_drewN L11.out.2 q11)
                  clear hq11 L11
                  go_wp2_with fail
                  refine (HOF.out _ B11.out).mono ?_
                  rintro e w12 ⟨rfl, rfl⟩
                  clear HOF B11
                  go_wp2_with fail
                  go_roundw
                  case rel => exact ⟨k + 1, S7, F7, V7, RF5, RV5, bl, st, by omega, by go_num, L12⟩
                  case measure => simp [intOf]; omega
        · obtain rfl : k = len0 := by omega
          clear hkl
          have hkl : ¬ k < k := by omega
          go_wp2_with fail
          refine (alive_any _).mono ?_
          rintro e w5 ⟨rfl, hb⟩
          have HB := Lib.hid (HL.out.1.below hb).bel
          clear hb HL
          go_wp2_with fail
          go_ret
          exact ⟨rfl, HB.out⟩
end Go.Proofs.Ytkeclanbebiogaa
