/- same: lanes have the content of the reference. (Written by mksame.py.) -/
import Derived.Test.YtlmjhggnecmggaaDo
namespace Go.Proofs.Ytlmjhggnecmggaa
open Go Go.RowKit
set_option linter.unusedVariables false
set_option linter.unusedSimpArgs false

section
variable {w0 w : World} {b d n : Nat} {S : Nat → Prop} {F V : List Int}
theorem ref_size (h : RefAt w S d n F V) : w.cell? ⟨d, 2, none⟩ = some (.int .i64 n) := by
  obtain ⟨a, ca, v, cv, h1, _⟩ := h
  exact h1.cell 2
set_option maxHeartbeats 1600000 in
theorem same_any (h : Both w0 w b d S n F V) : Calls Try.prog 12 #[.pointer (some ⟨b, 0, none⟩), .pointer (some ⟨d, 0, none⟩)] w fun e w' => e = .returned (.bool true) ∧ Below w.heap.size w w' := by
  have H0 := Lib.hid h
  clear h
  go_enter Try.func12, Try.ntmps12
  go_wp2
  go_loopw [5] (fun s5 wr => ∃ c : Int, -1 ≤ c ∧ c ≤ 3 ∧ s5 = .int .i64 c ∧ Hid (Both w0 wr b d S n F V) ∧ Hid (Below w.heap.size w wr)) (fun s5 _ => (3 - intOf s5).toNat)
  case atStart => exact ⟨-1, by omega, by omega, rfl, H0, Lib.hid (Below.refl _ _)⟩
  case round =>
    clear H0
    obtain ⟨c, hc1, hc2, rfl, HB, HL⟩ := hrel
    by_cases hlt : c ≤ 2
    · by_cases c0 : c = 0
      · subst c0
        clear hlt hc1 hc2
        have RA := Lib.hid (rall_any (S := S) 0 (HB.out).2.1)
        obtain ⟨q, hq⟩ : ∃ q, (laneL F V 0).length = q := ⟨_, rfl⟩
        obtain ⟨q2, hq2⟩ : ∃ q2, (aheadL F V 0).length = q2 := ⟨_, rfl⟩
        obtain ⟨f, hf⟩ : ∃ f, freeN n F V 0 = f := ⟨_, rfl⟩
        have x2 : wr.cell? ⟨d, 2, none⟩ = some (.int .i64 n) := ref_size HB.out.2.1
        have hnq : (n : Int) - (q : Int) = (f : Int) := by
          have := HB.out.1.1.size
          have h1 : F.length = q := hq
          have h2 : n - F.length = f := hf
          omega
        have hf5 : f ≤ 1048576 := by
          have := HB.out.1.1.size
          have h2 : n - F.length = f := hf
          omega
        rw [hq] at RA
        have HQ := Lib.hid hq
        have HQ2 := Lib.hid hq2
        have HFR := Lib.hid hf
        clear hq hq2 hf
        go_wp2_with fail
        refine RA.out.mono ?_
        rintro e w' ⟨a, cp, rfl, hq4, ia, rfl⟩
        have IA := Lib.hid ia
        have HA := Lib.hid (all_any 0 HB.out.1.1)
        clear RA ia
        go_wp2_with fail
        refine HA.out.mono ?_
        rintro e w2 ⟨v, rfl, ho, hb⟩
        obtain ⟨a2, cp2, rfl, _, _, _, hi⟩ := ints_of_owns (S := fun _ => False) ho (fun _ _ h => h)
        have B2 := Lib.hid (HB.out.below hb)
        have L2 := Lib.hid (HL.out.trans (hb.mono HL.out.size))
        have HE := Lib.hid (equal_same (c := cp2) (d := cp) hi (IA.out.below hb) HQ.out (by omega))
        rw [HQ.out]
        clear ho hb hi HA IA HB HL x2 hnq
        go_wp2_with fail
        refine HE.out.mono ?_
        rintro e w3 ⟨rfl, m, hm⟩
        have B3 : Hid (Both w0 w3 b d S n F V) := by rw [hm]; exact Lib.hid (B2.out.drewN m)
        have L3 : Hid (Below w.heap.size w w3) := by rw [hm]; exact Lib.hid (below_drewN L2.out m)
        have HN : Hid (Calls Try.prog 14 #[.pointer (some ⟨b, 0, none⟩), .int .i64 0] w3 fun e w' => e = .returned (.int .i64 (q : Nat)) ∧ w3 = w') := Lib.hid (by have := B3.out.1.len 0; rwa [HQ.out] at this)
        clear hm HE B2 L2
        go_wp2_with fail
        refine HN.out.mono ?_
        rintro e w' ⟨rfl, rfl⟩
        have HF : Hid (Calls Try.prog 18 #[.pointer (some ⟨b, 0, none⟩), .int .i64 0] w3 fun e w' => e = .returned (.int .i64 (f : Nat)) ∧ ∃ m, w' = w3.drewN m) := Lib.hid (by have := B3.out.1.free 0; rw [HFR.out] at this; exact this)
        clear HN
        go_wp2_with fail
        refine HF.out.mono ?_
        rintro e w4 ⟨rfl, m, hm⟩
        have B4 : Hid (Both w0 w4 b d S n F V) := by rw [hm]; exact Lib.hid (B3.out.drewN m)
        have L4 : Hid (Below w.heap.size w w4) := by rw [hm]; exact Lib.hid (below_drewN L3.out m)
        have HA := Lib.hid (ahead_any 0 B4.out.1.1)
        clear hm HF B3 L3
        go_wp2_with fail
        refine HA.out.mono ?_
        rintro e w5 ⟨v, rfl, ho, hb⟩
        obtain ⟨a3, cp3, rfl, _, _, _, hi⟩ := ints_of_owns (S := fun _ => False) ho (fun _ _ h => h)
        have B5 := Lib.hid (B4.out.below hb)
        have L5 := Lib.hid (L4.out.trans (hb.mono L4.out.size))
        have I5 := Lib.hid hi
        have HR := Lib.hid (rahead_any 0 B5.out.2.1)
        rw [HQ2.out]
        clear ho hb hi HA B4 L4
        go_wp2_with fail
        refine HR.out.mono ?_
        rintro e w6 ⟨a4, cp4, rfl, hl8, I6, hb⟩
        have B6 := Lib.hid (B5.out.below hb)
        have L6 := Lib.hid (L5.out.trans (hb.mono L5.out.size))
        have HE := Lib.hid (equal_same (c := cp3) (d := cp4) (I5.out.below hb) I6.out HQ2.out (by have := HQ2.out; omega))
        rw [HQ2.out]
        clear hb HR B5 L5 I5
        go_wp2_with fail
        refine HE.out.mono ?_
        rintro e w7 ⟨rfl, m, hm⟩
        have B7 : Hid (Both w0 w7 b d S n F V) := by rw [hm]; exact Lib.hid (B6.out.drewN m)
        have L7 : Hid (Below w.heap.size w w7) := by rw [hm]; exact Lib.hid (below_drewN L6.out m)
        clear hm HE B6 L6 I6
        go_wp2_with fail
        go_roundw
        case rel => exact ⟨0 + 1, by omega, by omega, rfl, B7, L7⟩
        case measure => simp [intOf] <;> omega
      · by_cases c1 : c = 1
        · subst c1
          clear hlt hc1 hc2 c0
          have RA := Lib.hid (rall_any (S := S) 1 (HB.out).2.1)
          obtain ⟨q, hq⟩ : ∃ q, (laneL F V 1).length = q := ⟨_, rfl⟩
          obtain ⟨q2, hq2⟩ : ∃ q2, (aheadL F V 1).length = q2 := ⟨_, rfl⟩
          obtain ⟨f, hf⟩ : ∃ f, freeN n F V 1 = f := ⟨_, rfl⟩
          have x2 : wr.cell? ⟨d, 2, none⟩ = some (.int .i64 n) := ref_size HB.out.2.1
          have hnq : (n : Int) - (q : Int) = (f : Int) := by
            have := HB.out.1.1.size
            have h1 : V.length = q := hq
            have h2 : n - V.length = f := hf
            omega
          have hf5 : f ≤ 1048576 := by
            have := HB.out.1.1.size
            have h2 : n - V.length = f := hf
            omega
          rw [hq] at RA
          have HQ := Lib.hid hq
          have HQ2 := Lib.hid hq2
          have HFR := Lib.hid hf
          clear hq hq2 hf
          go_wp2_with fail
          refine RA.out.mono ?_
          rintro e w' ⟨a, cp, rfl, hq4, ia, rfl⟩
          have IA := Lib.hid ia
          have HA := Lib.hid (all_any 1 HB.out.1.1)
          clear RA ia
          go_wp2_with fail
          refine HA.out.mono ?_
          rintro e w2 ⟨v, rfl, ho, hb⟩
          obtain ⟨a2, cp2, rfl, _, _, _, hi⟩ := ints_of_owns (S := fun _ => False) ho (fun _ _ h => h)
          have B2 := Lib.hid (HB.out.below hb)
          have L2 := Lib.hid (HL.out.trans (hb.mono HL.out.size))
          have HE := Lib.hid (equal_same (c := cp2) (d := cp) hi (IA.out.below hb) HQ.out (by omega))
          rw [HQ.out]
          clear ho hb hi HA IA HB HL x2 hnq
          go_wp2_with fail
          refine HE.out.mono ?_
          rintro e w3 ⟨rfl, m, hm⟩
          have B3 : Hid (Both w0 w3 b d S n F V) := by rw [hm]; exact Lib.hid (B2.out.drewN m)
          have L3 : Hid (Below w.heap.size w w3) := by rw [hm]; exact Lib.hid (below_drewN L2.out m)
          have HN : Hid (Calls Try.prog 14 #[.pointer (some ⟨b, 0, none⟩), .int .i64 1] w3 fun e w' => e = .returned (.int .i64 (q : Nat)) ∧ w3 = w') := Lib.hid (by have := B3.out.1.len 1; rwa [HQ.out] at this)
          clear hm HE B2 L2
          go_wp2_with fail
          refine HN.out.mono ?_
          rintro e w' ⟨rfl, rfl⟩
          have HF : Hid (Calls Try.prog 18 #[.pointer (some ⟨b, 0, none⟩), .int .i64 1] w3 fun e w' => e = .returned (.int .i64 (f : Nat)) ∧ ∃ m, w' = w3.drewN m) := Lib.hid (by have := B3.out.1.free 1; rw [HFR.out] at this; exact this)
          clear HN
          go_wp2_with fail
          refine HF.out.mono ?_
          rintro e w4 ⟨rfl, m, hm⟩
          have B4 : Hid (Both w0 w4 b d S n F V) := by rw [hm]; exact Lib.hid (B3.out.drewN m)
          have L4 : Hid (Below w.heap.size w w4) := by rw [hm]; exact Lib.hid (below_drewN L3.out m)
          have HA := Lib.hid (ahead_any 1 B4.out.1.1)
          clear hm HF B3 L3
          go_wp2_with fail
          refine HA.out.mono ?_
          rintro e w5 ⟨v, rfl, ho, hb⟩
          obtain ⟨a3, cp3, rfl, _, _, _, hi⟩ := ints_of_owns (S := fun _ => False) ho (fun _ _ h => h)
          have B5 := Lib.hid (B4.out.below hb)
          have L5 := Lib.hid (L4.out.trans (hb.mono L4.out.size))
          have I5 := Lib.hid hi
          have HR := Lib.hid (rahead_any 1 B5.out.2.1)
          rw [HQ2.out]
          clear ho hb hi HA B4 L4
          go_wp2_with fail
          refine HR.out.mono ?_
          rintro e w6 ⟨a4, cp4, rfl, hl8, I6, hb⟩
          have B6 := Lib.hid (B5.out.below hb)
          have L6 := Lib.hid (L5.out.trans (hb.mono L5.out.size))
          have HE := Lib.hid (equal_same (c := cp3) (d := cp4) (I5.out.below hb) I6.out HQ2.out (by have := HQ2.out; omega))
          rw [HQ2.out]
          clear hb HR B5 L5 I5
          go_wp2_with fail
          refine HE.out.mono ?_
          rintro e w7 ⟨rfl, m, hm⟩
          have B7 : Hid (Both w0 w7 b d S n F V) := by rw [hm]; exact Lib.hid (B6.out.drewN m)
          have L7 : Hid (Below w.heap.size w w7) := by rw [hm]; exact Lib.hid (below_drewN L6.out m)
          clear hm HE B6 L6 I6
          go_wp2_with fail
          go_roundw
          case rel => exact ⟨1 + 1, by omega, by omega, rfl, B7, L7⟩
          case measure => simp [intOf] <;> omega
        · have HC := Lib.hid (And.intro c0 c1)
          have RA := Lib.hid (rall_any (S := S) c (HB.out).2.1)
          obtain ⟨q, hq⟩ : ∃ q, (laneL F V c).length = q := ⟨_, rfl⟩
          obtain ⟨q2, hq2⟩ : ∃ q2, (aheadL F V c).length = q2 := ⟨_, rfl⟩
          obtain ⟨f, hf⟩ : ∃ f, freeN n F V c = f := ⟨_, rfl⟩
          have e0 : (c == 0) = false := by simpa using c0
          have e1 : (c == 1) = false := by simpa using c1
          obtain rfl : f = 0 := by rw [← hf, freeN, if_neg c0, if_neg c1]
          rw [hq] at RA
          have HQ := Lib.hid hq
          have HQ2 := Lib.hid hq2
          have HFR := Lib.hid hf
          clear hq hq2 hf
          go_wp2_with fail
          refine RA.out.mono ?_
          rintro e w' ⟨a, cp, rfl, hq4, ia, rfl⟩
          have IA := Lib.hid ia
          have HA := Lib.hid (all_any c HB.out.1.1)
          clear RA ia
          go_wp2_with fail
          refine HA.out.mono ?_
          rintro e w2 ⟨v, rfl, ho, hb⟩
          obtain ⟨a2, cp2, rfl, _, _, _, hi⟩ := ints_of_owns (S := fun _ => False) ho (fun _ _ h => h)
          have B2 := Lib.hid (HB.out.below hb)
          have L2 := Lib.hid (HL.out.trans (hb.mono HL.out.size))
          have HE := Lib.hid (equal_same (c := cp2) (d := cp) hi (IA.out.below hb) HQ.out (by omega))
          rw [HQ.out]
          clear ho hb hi HA IA HB HL
          go_wp2_with fail
          refine HE.out.mono ?_
          rintro e w3 ⟨rfl, m, hm⟩
          have B3 : Hid (Both w0 w3 b d S n F V) := by rw [hm]; exact Lib.hid (B2.out.drewN m)
          have L3 : Hid (Below w.heap.size w w3) := by rw [hm]; exact Lib.hid (below_drewN L2.out m)
          have HN : Hid (Calls Try.prog 14 #[.pointer (some ⟨b, 0, none⟩), .int .i64 c] w3 fun e w' => e = .returned (.int .i64 (q : Nat)) ∧ w3 = w') := Lib.hid (by have := B3.out.1.len c; rwa [HQ.out] at this)
          clear hm HE B2 L2
          go_wp2_with fail
          refine HN.out.mono ?_
          rintro e w' ⟨rfl, rfl⟩
          have HF : Hid (Calls Try.prog 18 #[.pointer (some ⟨b, 0, none⟩), .int .i64 c] w3 fun e w' => e = .returned (.int .i64 0) ∧ ∃ m, w' = w3.drewN m) := Lib.hid (by have := B3.out.1.free c; rw [HFR.out] at this; exact this)
          clear HN
          go_wp2_with fail
          refine HF.out.mono ?_
          rintro e w4 ⟨rfl, m, hm⟩
          have B4 : Hid (Both w0 w4 b d S n F V) := by rw [hm]; exact Lib.hid (B3.out.drewN m)
          have L4 : Hid (Below w.heap.size w w4) := by rw [hm]; exact Lib.hid (below_drewN L3.out m)
          have HA := Lib.hid (ahead_any c B4.out.1.1)
          clear hm HF B3 L3
          go_wp2_with fail
          refine HA.out.mono ?_
          rintro e w5 ⟨v, rfl, ho, hb⟩
          obtain ⟨a3, cp3, rfl, _, _, _, hi⟩ := ints_of_owns (S := fun _ => False) ho (fun _ _ h => h)
          have B5 := Lib.hid (B4.out.below hb)
          have L5 := Lib.hid (L4.out.trans (hb.mono L4.out.size))
          have I5 := Lib.hid hi
          have HR := Lib.hid (rahead_any c B5.out.2.1)
          rw [HQ2.out]
          clear ho hb hi HA B4 L4
          go_wp2_with fail
          refine HR.out.mono ?_
          rintro e w6 ⟨a4, cp4, rfl, hl8, I6, hb⟩
          have B6 := Lib.hid (B5.out.below hb)
          have L6 := Lib.hid (L5.out.trans (hb.mono L5.out.size))
          have HE := Lib.hid (equal_same (c := cp3) (d := cp4) (I5.out.below hb) I6.out HQ2.out (by have := HQ2.out; omega))
          rw [HQ2.out]
          clear hb HR B5 L5 I5
          go_wp2_with fail
          refine HE.out.mono ?_
          rintro e w7 ⟨rfl, m, hm⟩
          have B7 : Hid (Both w0 w7 b d S n F V) := by rw [hm]; exact Lib.hid (B6.out.drewN m)
          have L7 : Hid (Below w.heap.size w w7) := by rw [hm]; exact Lib.hid (below_drewN L6.out m)
          clear hm HE B6 L6 I6
          go_wp2_with fail
          go_roundw
          case rel => exact ⟨c + 1, by omega, by omega, by go_num, B7, L7⟩
          case measure => simp [intOf] <;> omega
    · clear hc1 hc2
      have hlt : ¬ c ≤ 2 := hlt
      have HH := Lib.hid (head_any HB.out.1.1)
      go_wp2_with fail
      refine HH.out.mono ?_
      rintro e w2 ⟨rfl, m, hm⟩
      have B2 : Hid (Both w0 w2 b d S n F V) := by rw [hm]; exact Lib.hid (HB.out.drewN m)
      have L2 : Hid (Below w.heap.size w w2) := by rw [hm]; exact Lib.hid (below_drewN HL.out m)
      have HR := Lib.hid (rhead_any B2.out.2.1)
      clear hm HH HB HL
      go_wp2_with fail
      refine HR.out.mono ?_
      rintro e w' ⟨rfl, rfl⟩
      clear HR B2
      generalize hdI F V = i at *
      generalize hdC F V = j at *
      generalize hdB F V = t at *
      go_wp2_with fail
      go_ret
      exact ⟨rfl, L2.out⟩
end
end Go.Proofs.Ytlmjhggnecmggaa
