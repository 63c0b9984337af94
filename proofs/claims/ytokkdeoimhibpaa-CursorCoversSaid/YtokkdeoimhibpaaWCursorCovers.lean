/- The walk of CursorCovers. -/
import Derived.Test.YtokkdeoimhibpaaCont
import Derived.Test.YtokkdeoimhibpaaFour
import Derived.Deep.CutRange
namespace Go.Proofs.Ytokkdeoimhibpaa
open Go Go.RowKit Go.Deep
set_option linter.unusedVariables false
set_option linter.unusedSimpArgs false

set_option maxRecDepth 100000 in
set_option maxHeartbeats 6400000 in
theorem walk_CursorCovers (a0 : Nat → Int) (a1 : Option Addr) (len1 cap1 : Nat) (w : World) (w0 : FitsS a0) (w1 : IsBools w a1 len1 cap1) :
    Calls Try.prog 7 #[.agg (cellsS a0), .slice a1 len1 cap1] w fun e w' => e = .returned (.bool true) ∧ Below w.heap.size w w' := by
  obtain ⟨L, hL, l1, l2, hB⟩ := w1
  have hl : len1 ≤ 9223372036854775807 := by unfold maxLen at l2; omega
  have HL := Lib.hid hL
  have HB := Lib.hid hB
  have H9 := Lib.hid (fun w => new_any w)
  have f0 := w0 0 (by omega)
  have f1 := w0 1 (by omega)
  have f2 := w0 2 (by omega)
  have f3 := w0 3 (by omega)
  clear l1 l2 hL hB w0
  unfold cellsS
  generalize a0 0 = b0 at *
  generalize a0 1 = b1 at *
  generalize a0 2 = b2 at *
  generalize a0 3 = b3 at *
  obtain ⟨b0, rfl⟩ : ∃ x : Nat, b0 = x := ⟨b0.toNat, by omega⟩
  obtain ⟨b1, rfl⟩ : ∃ x : Nat, b1 = x := ⟨b1.toNat, by omega⟩
  obtain ⟨b2, rfl⟩ : ∃ x : Nat, b2 = x := ⟨b2.toNat, by omega⟩
  obtain ⟨b3, rfl⟩ : ∃ x : Nat, b3 = x := ⟨b3.toNat, by omega⟩
  obtain ⟨n, hn⟩ : ∃ n, b1 % 30 + 1 = n := ⟨_, rfl⟩
  obtain ⟨v, hv⟩ : ∃ v, b2 % 8 + 1 = v := ⟨_, rfl⟩
  obtain ⟨p, hp⟩ : ∃ p, b3 % 8 + 1 = p := ⟨_, rfl⟩
  have n1 : 1 ≤ n ∧ n ≤ 30 := by omega
  have v1 : 1 ≤ v ∧ v ≤ 8 := by omega
  have p1 : 1 ≤ p ∧ p ≤ 8 := by omega
  have HN := Lib.hid hn
  have HV := Lib.hid hv
  have HP := Lib.hid hp
  clear hn hv hp
  go_enter Try.func7, Try.ntmps7
  go_upto_region 1 with (fail)
  go_cut [5, 6, 7] from 5 to 33 (fun s5 s6 s7 wx => s5 = .int .i64 n ∧ s6 = .int .i64 v ∧ s7 = .int .i64 p ∧ ∃ nq, wx = (w.alloc (.cells #[.int .u8 b0, .int .u8 b1, .int .u8 b2, .int .u8 b3] 41)).drewN nq)
  case first =>
    go_quiet (fail)
    go_wp2_with fail
    go_meet
    case rel =>
      refine ⟨?_, ?_, ?_, _, rfl⟩
      · rw [← HN.out]; rfl
      · rw [← HV.out]; rfl
      · rw [← HP.out]; rfl
  case rest =>
    obtain ⟨rfl, rfl, rfl, nq, rfl⟩ := hcut
    have HW : Hid (Below w.heap.size w ((w.alloc (.cells #[.int .u8 b0, .int .u8 b1, .int .u8 b2, .int .u8 b3] 41)).drewN nq) ∧ Blk ((w.alloc (.cells #[.int .u8 b0, .int .u8 b1, .int .u8 b2, .int .u8 b3] 41)).drewN nq) w.heap.size 41 #[.int .u8 b0, .int .u8 b1, .int .u8 b2, .int .u8 b3]) := Lib.hid ⟨below_drewN ((Below.refl _ w).alloc (Nat.le_refl _) _) nq, (Blk.new w _ _).drewN nq⟩
    obtain ⟨z, hz⟩ : ∃ z, w.heap.size = z := ⟨_, rfl⟩
    rw [hz]
    have HZ := Lib.hid hz
    generalize (w.alloc (.cells #[.int .u8 b0, .int .u8 b1, .int .u8 b2, .int .u8 b3] 41)).drewN nq = W at *
    have hW := HW.out.1
    have hWz := HW.out.2
    rw [hz] at hWz
    have HW1 := Lib.hid hW
    have HW2 := Lib.hid hWz
    clear hz hW hWz HW
    by_cases h1000 : (1000 : Int) < (len1 : Int)
    · go_wp2_with fail
      refine (H9.out _).mono ?_
      rintro e w1 ⟨c, rfl, hcw, HC, hb⟩
      have HB1 := Lib.hid (HW1.out.trans (hb.mono HW1.out.size))
      clear hcw HC hb
      go_wp2_with fail
      refine (alive_any _).mono ?_
      rintro e w2 ⟨rfl, hb⟩
      have HB2 := Lib.hid (HB1.out.trans (hb.mono HB1.out.size))
      clear hb
      go_wp2_with fail
      go_ret
      exact ⟨rfl, HB2.out⟩
    · go_wp2_with fail
      refine (H9.out _).mono ?_
      rintro e w1 ⟨c, rfl, hcw, HC, hb⟩
      have hmk := fun w => run_make_bools n (by omega) w
      have O1 : Hid (Own w w1 c 0) := Lib.hid (Own.new (Nat.le_trans HW1.out.size hcw) HC.out (HW1.out.trans (hb.mono HW1.out.size)))
      have O2 := Lib.hid (O1.out.alloc (.cells (cellsB (List.replicate n false)) 4))
      have G2 : Hid (BlkB (w1.alloc (.cells (cellsB (List.replicate n false)) 4)) w1.heap.size (List.replicate n false)) := Lib.hid (Blk.new _ _ _)
      have x2 : (w1.alloc (.cells (cellsB (List.replicate n false)) 4)).cell? ⟨z, 0, none⟩ = some (.int .u8 b0) := ((HW2.out.below hb HW2.out.lt).alloc _).cell 0
      have hc1 : w1.heap.size ≠ c := by have := HC.out.lt; omega
      have HS : Hid (Calls Try.prog 13 #[.pointer (some ⟨c, 0, none⟩), .slice (some ⟨w1.heap.size, 0, none⟩) n n, .int .i64 ((b0 : Int) % (n : Int) + 1), .int .i64 1] (w1.alloc (.cells (cellsB (List.replicate n false)) 4)) fun e w' =>
          ∃ (s : Nat) (x : Value), e = .returned x ∧ s < n ∧ Hid (Own w w' c s)) := Lib.hid (by
        have h := O2.out.sweep (some ⟨w1.heap.size, 0, none⟩) n (List.replicate n false) ((b0 : Int) % (n : Int) + 1) 1 (by omega) (by simp; omega) (G2.out.bools hc1)
        rw [List.length_replicate] at h
        refine h.mono ?_
        rintro e w' ⟨m, a, cp, he, hst, _, ho, _⟩
        have hb0 : 0 ≤ (b0 : Int) % (n : Int) := Int.emod_nonneg _ (by omega)
        exact ⟨_, _, he, posN_lt (by omega) (hst.out.some (by simp; omega) (by omega) (by omega)), ho⟩)
      have hm0 : 0 ≤ (b0 : Int) % (n : Int) := Int.emod_nonneg _ (by omega)
      have hm1 : (b0 : Int) % (n : Int) < (n : Int) := Int.emod_lt_of_pos _ (by omega)
      clear hcw HC hb O1 O2 G2
      go_wp2_with fail
      with_reducible refine HS.out.mono ?_
      rintro e w3 ⟨s0, x, rfl, hs0, O3⟩
      clear HS x2 HW1 HW2
      have G4 : Hid (BlkB (w3.alloc (.cells (cellsB (List.replicate n false)) 4)) w3.heap.size (List.replicate n false)) := Lib.hid (Blk.new _ _ _)
      have O4 := Lib.hid (O3.out.alloc (.cells (cellsB (List.replicate n false)) 4))
      have hg : c ≠ w3.heap.size ∧ w.heap.size ≤ w3.heap.size := ⟨by have := O3.out.1.lt; omega, O3.out.2.2.size⟩
      have HG := Lib.hid hg
      obtain ⟨B, hB⟩ : ∃ B, (n - 1) / min v p + 1 = B := ⟨_, rfl⟩
      have hBk := fun W => blocks_any n v p W (by omega) (by omega) (by omega) (by omega)
      simp only [blocksN_nat n1.1, hB] at hBk
      have HBK := Lib.hid hBk
      have hB30 : B ≤ 30 := by
        rw [← hB]
        have := Nat.div_le_self (n - 1) (min v p)
        omega
      have HBB := Lib.hid hB
      have hd1 : decide ((1000 : Int) < (len1 : Int)) = false := decide_eq_false (by omega)
      clear hg hBk hB O3
      go_wp2_with fail
      refine (HBK.out _).mono ?_
      rintro e w4 ⟨rfl, hw4⟩
      subst hw4
      generalize w3.heap.size = g at *
      generalize (w3.alloc (.cells (cellsB (List.replicate n false)) 4)) = w5 at *
      go_wp2
      generalize (b0 : Int) % (n : Int) = bb at *
      clear hd1 HBK
      go_loopw [11, 57] (fun s11 s57 wr => ∃ (k x T : Nat) (S : List Bool), k ≤ B ∧ s57 = .int .i64 k ∧ s11 = .int .i64 x ∧ x ≤ 30 * k ∧ Hid (Own w wr c ((s0 + T) % n)) ∧ Hid (BlkB wr g S) ∧ Hid (Cov S n s0 T) ∧ Hid (Done n (min v p) k T)) (fun _ s57 _ => B - (intOf s57).toNat)
      case atStart => exact ⟨0, 0, 0, List.replicate n false, by omega, rfl, rfl, by omega, Lib.hid (by rw [Nat.add_zero, Nat.mod_eq_of_lt hs0]; exact O4.out), G4, Lib.hid (Cov.start n s0), Lib.hid (.inr (by omega))⟩
      case round =>
        obtain ⟨k, x, T, S, hk, rfl, rfl, hx, HO, HS, HCV, HD⟩ := hrel
        clear O4 G4
        by_cases hkB : k < B
        · obtain ⟨U, hU⟩ : ∃ U, U = wr := ⟨_, rfl⟩
          subst hU
          have hq0 : (s0 + T) % n < n := Nat.mod_lt _ (by omega)
          obtain ⟨q0, hq⟩ : ∃ q, (s0 + T) % n = q := ⟨_, rfl⟩
          rw [hq] at hq0 HO
          have HQ := Lib.hid hq
          have M1 : Hid (BlkB (U.alloc (.cells (cellsB (List.replicate n false)) 4)) U.heap.size (List.replicate n false)) := Lib.hid (Blk.new _ _ _)
          have O1 := Lib.hid (HO.out.alloc (.cells (cellsB (List.replicate n false)) 4))
          have S1 : Hid (BlkB (U.alloc (.cells (cellsB (List.replicate n false)) 4)) g S) := Lib.hid (Blk.alloc HS.out _)
          have B1 : Hid (Bools (U.alloc (.cells (cellsB (List.replicate n false)) 4)) (fun i => i = U.heap.size) a1 L) := Lib.hid (((HB.out.below HO.out.2.2).other (T := fun i => i = U.heap.size) (fun i hi h => by omega)).below ((Below.refl _ U).alloc (Nat.le_refl _) _))
          have hgU : g ≠ U.heap.size ∧ c ≠ U.heap.size ∧ w.heap.size ≤ U.heap.size := ⟨by have := Blk.lt HS.out; omega, by have := HO.out.1.lt; omega, HO.out.2.2.size⟩
          have HGU := Lib.hid hgU
          clear hq HO HS hgU
          go_wp2
          generalize U.heap.size = h at *
          generalize (U.alloc (.cells (cellsB (List.replicate n false)) 4)) = w6 at *
          go_loopw [11, 63] (fun s11 s63 wx => ∃ (i y : Nat) (N : List Bool), i ≤ n ∧ s63 = .int .i64 i ∧ s11 = .int .i64 y ∧ y ≤ 30 * k + i ∧ Hid (N.length = n ∧ BlkB wx h N) ∧ Hid (Kept (fun i => i = h) w6 wx)) (fun _ s63 _ => n - (intOf s63).toNat)
          case atStart => exact ⟨0, x, List.replicate n false, by omega, rfl, rfl, by omega, Lib.hid ⟨by simp, M1.out⟩, Lib.hid (Kept.refl _ _)⟩
          case round =>
            obtain ⟨i, y, N, hi, rfl, rfl, hy, HNL, HK⟩ := hrel
            clear M1
            by_cases hin : i < n
            · have x1 : wr.cell? ⟨h, i, none⟩ = some (.bool (N.getD i false)) := HNL.out.2.cell (by rw [HNL.out.1]; exact hin)
              have f1 := HNL.out.2.frozen i
              by_cases hyl : y < len1
              · obtain ⟨rb, ro, ha1, hrb, hrl, hrc⟩ := B1.out (by rw [HL.out]; omega)
                obtain ⟨r, hr⟩ : ∃ r, L.getD y false = r := ⟨_, rfl⟩
                have x2 : wr.cell? ⟨rb, ro + y, none⟩ = some (.bool r) := by
                  rw [← hr]
                  exact HK.out.cell (p := ⟨rb, ro + y, none⟩) hrb (hrc y (by rw [HL.out]; omega))
                have H2 : Hid ((N.set i r).length = n ∧ BlkB (wr.setCell ⟨h, i, none⟩ (.bool r)) h (N.set i r)) := Lib.hid ⟨by rw [List.length_set]; exact HNL.out.1, HNL.out.2.set i r⟩
                have HK2 : Hid (Kept (fun i => i = h) w6 (wr.setCell ⟨h, i, none⟩ (.bool r))) := Lib.hid (HK.out.setCell (p := ⟨h, i, none⟩) (.inl rfl) _)
                subst ha1
                clear hrc hr HK HNL
                go_wp2
                go_roundw
                case rel => exact ⟨i + 1, y + 1, N.set i r, by omega, by go_num, by go_num, by omega, H2, HK2⟩
                case measure => simp [intOf]; omega
              · have H2 : Hid ((N.set i false).length = n ∧ BlkB (wr.setCell ⟨h, i, none⟩ (.bool false)) h (N.set i false)) := Lib.hid ⟨by rw [List.length_set]; exact HNL.out.1, HNL.out.2.set i false⟩
                have HK2 : Hid (Kept (fun i => i = h) w6 (wr.setCell ⟨h, i, none⟩ (.bool false))) := Lib.hid (HK.out.setCell (p := ⟨h, i, none⟩) (.inl rfl) _)
                have hd2 : decide (y < len1) = false := decide_eq_false hyl
                clear HK HNL
                go_wp2
                go_roundw
                case rel => exact ⟨i + 1, y + 1, N.set i false, by omega, by go_num, by go_num, by omega, H2, HK2⟩
                case measure => simp [intOf]; omega
            · have hni : n = i := by omega
              subst hni
              clear hin hi
              have hin : ¬ n < n := by omega
              have O7 : Hid (Own w wr c q0) := Lib.hid (O1.out.side HK.out HGU.out.2.1 HGU.out.2.2)
              have S7 : Hid (BlkB wr g S) := Lib.hid (Blk.kept S1.out HK.out HGU.out.1)
              have A7 := Lib.hid (at_any c q0 wr O7.out.1)
              have H7 := Lib.hid (O7.out.sweep (some ⟨h, 0, none⟩) n N v p (by omega) (by rw [HNL.out.1]; omega) (HNL.out.2.bools (fun e => HGU.out.2.1 e.symm)))
              rw [HNL.out.1] at H7
              have HNN := Lib.hid HNL.out.1
              clear O1 S1 B1 HK HNL O7
              go_wp2_with fail
              refine A7.out.mono ?_
              rintro e w7 ⟨rfl, rfl⟩
              go_wp2_with fail
              refine H7.out.mono ?_
              rintro e w8 ⟨m, a8, cp8, rfl, HST, _, O8, K8⟩
              have S8 : Hid (BlkB w8 g S) := Lib.hid (Blk.kept S7.out K8.out (fun e => HG.out.1 e.symm))
              have hmn := HST.out.le
              have hD := Done.step (j := k) (T := T) (by rw [HNN.out]; exact HD.out) HST.out
              rw [HNN.out] at hmn hD
              have HD2 := Lib.hid hD
              have O9 : Hid (Own w w8 c ((s0 + (T + m)) % n)) := Lib.hid (by rw [← posN_add, HQ.out]; exact O8.out)
              have hmin : min (m : Int) (n : Int) = (m : Int) := by omega
              clear H7 A7 S7 K8 HST HD hD O8
              generalize (paidZ N q0 m).length = q8 at *
              go_wp2
              clear hmin
              go_loopw [95] (fun s95 wx => ∃ (t : Nat) (S' : List Bool), t ≤ m ∧ s95 = .int .i64 t ∧ Hid (BlkB wx g S') ∧ Hid (Cov S' n s0 (T + t)) ∧ Hid (Kept (fun i => i = g) w8 wx)) (fun s95 _ => m - (intOf s95).toNat)
              case atStart => exact ⟨0, S, by omega, rfl, S8, HCV, Lib.hid (Kept.refl _ _)⟩
              case round =>
                obtain ⟨t, S', ht, rfl, HS', HC', HK'⟩ := hrel
                clear S8 HCV
                by_cases htm : t < m
                · have hil : (q0 + t) % n < n := Nat.mod_lt _ (by omega)
                  obtain ⟨i, hi⟩ : ∃ i, (q0 + t) % n = i := ⟨_, rfl⟩
                  rw [hi] at hil
                  have hmod : ((q0 : Int) + (t : Int)) % (n : Int) = (i : Int) := by rw [← hi, Int.natCast_emod]; rfl
                  have hit : i = (s0 + (T + t)) % n := by rw [← hi, ← HQ.out, Nat.mod_add_mod, Nat.add_assoc]
                  have x1 : wr.cell? ⟨g, i, none⟩ = some (.bool (S'.getD i false)) := HS'.out.cell (by rw [HC'.out.1]; exact hil)
                  have f1 := HS'.out.frozen i
                  have H2 : Hid (BlkB (wr.setCell ⟨g, i, none⟩ (.bool true)) g (S'.set i true)) := Lib.hid (HS'.out.set i true)
                  have C2 : Hid (Cov (S'.set i true) n s0 (T + (t + 1))) := Lib.hid (HC'.out.step (by omega) hit)
                  have K2 : Hid (Kept (fun i => i = g) w8 (wr.setCell ⟨g, i, none⟩ (.bool true))) := Lib.hid (HK'.out.setCell (p := ⟨g, i, none⟩) (.inl rfl) _)
                  clear hi hit HS' HC' HK'
                  go_wp2
                  go_roundw
                  case rel => exact ⟨t + 1, S'.set i true, by omega, by go_num, H2, C2, K2⟩
                  case measure => simp [intOf]; omega
                · have hmt : m = t := by omega
                  subst hmt
                  clear htm ht
                  have htm : ¬ m < m := by omega
                  have OE : Hid (Own w wr c ((s0 + (T + m)) % n)) := Lib.hid (O9.out.side HK'.out HG.out.1 HG.out.2)
                  clear O9 HK'
                  go_wp2
                  go_roundw
                  case rel => exact ⟨k + 1, y, T + m, S', by omega, by go_num, rfl, by omega, OE, HS', HC', HD2⟩
                  case measure => simp [intOf]; omega
        · obtain rfl : k = B := by omega
          clear hkB
          have hkB : ¬ k < k := by omega
          have hS := HCV.out.all (HD.out.all (by omega) (by omega) HBB.out.symm)
          subst hS
          have hlr : (List.replicate n true).length = n := by simp
          have HSR := Lib.hid HS.out
          have OO := Lib.hid HO.out.2.2
          clear HCV HD HO hlr HS
          go_wp2_with fail
          refine (alive_any _).mono ?_
          rintro e w7 ⟨rfl, hb⟩
          have HC7 := Lib.hid (contains_none g n w7 (Blk.below HSR.out hb HSR.out.lt) (by omega))
          have HB7 := Lib.hid (OO.out.trans (hb.mono OO.out.size))
          clear hb OO HSR
          go_wp2_with fail
          refine HC7.out.mono ?_
          rintro e w8 ⟨rfl, rfl⟩
          go_wp2_with fail
          go_ret
          exact ⟨rfl, HB7.out⟩
end Go.Proofs.Ytokkdeoimhibpaa
