/- The walk of CursorBudget. -/
import Derived.Test.YtokkdeoimhibpaaSeen
namespace Go.Proofs.Ytokkdeoimhibpaa
open Go Go.RowKit Go.Deep
set_option linter.unusedVariables false
set_option linter.unusedSimpArgs false

set_option maxRecDepth 100000 in
set_option maxHeartbeats 3200000 in
theorem walk_CursorBudget (a0 : Option Addr) (len0 cap0 : Nat) (w : World) (w0 : IsRounds w a0 len0 cap0) :
    Calls Try.prog 4 #[.slice a0 len0 cap0] w fun e w' => e = .returned (.bool true) ∧ Below w.heap.size w w' := by
  obtain ⟨l1, l2, R, hR⟩ := w0
  have hl : len0 ≤ 9223372036854775807 := by unfold maxLen at l2; omega
  have H := Lib.hid hR
  have H9 := Lib.hid (fun w => new_any w)
  clear l1 l2 hR
  go_enter Try.func4, Try.ntmps4
  go_wp2_with fail
  refine (H9.out _).mono ?_
  rintro e w1 ⟨c, rfl, hcw, HC, hb⟩
  have O1 : Hid (Own w w1 c 0) := Lib.hid (Own.new hcw HC.out hb)
  have HF : Hid (RoundsAt w1 a0 len0 R) := Lib.hid (fun h0 => by
    obtain ⟨b, off, e, hbl, hc⟩ := H.out h0
    exact ⟨b, off, e, Nat.lt_of_lt_of_le hbl hb.size, fun i hi => ⟨fun j u hu => (hb.cell (p := ⟨b, off + i * 3 + j, none⟩) hbl).trans ((hc i hi).1 j u hu), (hc i hi).2.1.below hb, (hc i hi).2.2⟩⟩)
  clear hb HC hcw
  go_wp2_with fail
  refine (few_any a0 len0 cap0 R w1 HF.out hl).mono ?_
  rintro e w2 ⟨r, rfl, hr, hb⟩
  have O2 := Lib.hid (O1.out.below hb)
  have HR := Lib.hid hr
  clear hb O1 HF hr
  cases r
  · go_wp2_with fail
    refine (alive_any _).mono ?_
    rintro e w3 ⟨rfl, hb⟩
    have HB := Lib.hid (O2.out.2.2.trans (hb.mono O2.out.2.2.size))
    clear hb
    go_wp2_with fail
    go_ret
    exact ⟨rfl, HB.out⟩
  · have h40 := (HR.out rfl).1
    have HR2 := Lib.hid (HR.out rfl).2
    clear HR
    go_wp2
    go_loopw [20] (fun s20 wr => ∃ k s : Nat, k ≤ len0 ∧ s ≤ 100 ∧ s20 = .int .i64 k ∧ Hid (Own w wr c s)) (fun s20 _ => len0 - (intOf s20).toNat)
    case atStart => exact ⟨0, 0, by omega, by omega, rfl, O2⟩
    case round =>
      obtain ⟨k, s, hk, hs, rfl, O⟩ := hrel
      by_cases hkl : k < len0
      · obtain ⟨b, off, rfl, hbl, hx, hB, _⟩ := H.out.at O.out.2.2 hkl
        have hl100 := HR2.out k hkl
        obtain ⟨U, hU⟩ : ∃ U, U = wr := ⟨_, rfl⟩
        subst hU
        obtain ⟨r, hr⟩ : ∃ r, R k = r := ⟨_, rfl⟩
        rw [hr] at hx hB hl100
        clear hr
        have x0 : (U.alloc (.cells (cellsR r) 29)).cell? ⟨U.heap.size, 0, none⟩ = some (.slice r.al r.L.length r.cl) := (Blk.new U _ (cellsR r)).cell 0
        have x1 : (U.alloc (.cells (cellsR r) 29)).cell? ⟨U.heap.size, 1, none⟩ = some (.int .i64 r.v) := (Blk.new U _ (cellsR r)).cell 1
        have x2 : (U.alloc (.cells (cellsR r) 29)).cell? ⟨U.heap.size, 2, none⟩ = some (.int .i64 r.p) := (Blk.new U _ (cellsR r)).cell 2
        have HE : Hid (Blk (U.alloc (.cells (cellsR r) 29)) U.heap.size 29 (cellsR r)) := Lib.hid (Blk.new _ _ _)
        have hcU : U.heap.size ≠ c := by have := O.out.1.lt; omega
        have OE := Lib.hid (O.out.alloc (.cells (cellsR r) 29))
        have BE : Hid (Bools (U.alloc (.cells (cellsR r) 29)) (fun i => i = c) r.al r.L) := Lib.hid ((hB.out.other (fun i _ h => by rw [h]; exact O.out.2.1)).below ((Below.refl _ _).alloc (Nat.le_refl _) _))
        have H1 := Lib.hid (OE.out.sweep r.al r.cl r.L r.v r.p hs hl100 BE.out)
        go_wp2_with (first | (refine wpList_load_rnd rfl 29 _ rfl b (off + k * 3) rfl r _ hx.out Try.underlying29 rfl infoR ?_) | (refine wpList_store_row rfl _ _ _ rfl U.heap.size (cellsR r) rfl rfl 29 _ (heap_alloc_new U _) infoR rfl (cellsR_one r) ?_; rw [World.setRow_alloc_new]))
        refine H1.out.mono ?_
        rintro e w3 ⟨m, a3, cp3, rfl, HST, I3, O3, K3⟩
        obtain ⟨z, hz⟩ : ∃ z, U.heap.size = z := ⟨_, rfl⟩
        rw [hz] at hcU HE
        have E3 : Hid (Blk w3 z 29 (cellsR r)) := Lib.hid (HE.out.kept K3.out hcU)
        have B3 : Hid (Bools w3 (fun i => i = c) r.al r.L) := Lib.hid (BE.out.kept K3.out (fun _ _ h => h))
        have J3 : Hid (IntsAt w3 (fun _ => False) a3 (paidZ r.L s m)) := Lib.hid (I3.out.other (fun _ _ h => h.elim))
        simp only [hz]
        clear x0 x1 x2 HE OE BE H1 I3 K3 hx hB O hz
        have y0 := E3.out.cell 0
        have y1 := E3.out.cell 1
        have y2 := E3.out.cell 2
        obtain ⟨al, cl, L, v, p⟩ := r
        dsimp only at *
        obtain ⟨n, hn⟩ : ∃ n, L.length = n := ⟨_, rfl⟩
        have hmn := HST.out.le
        have hmv := HST.out.le_v
        have hqp := HST.out.le_p
        have hqm := paidN_len L s m
        rw [← paidZ_len] at hqm hqp
        obtain ⟨q, hq⟩ : ∃ q, (paidZ L s m).length = q := ⟨_, rfl⟩
        have HN := Lib.hid hn
        have HQ := Lib.hid hq
        have z0 : w3.cell? ⟨z, 0, none⟩ = some (.slice al n cl) := by rw [← hn]; exact y0
        have z1 : w3.cell? ⟨z, 1, none⟩ = some (.int .i64 v) := y1
        have z2 : w3.cell? ⟨z, 2, none⟩ = some (.int .i64 p) := y2
        rw [hn] at hmn hl100
        rw [hq] at hqm hqp
        simp only [hq]
        have hs2 : posN L.length s m ≤ 100 := posN_le (by rw [hn]; exact hl100) hs HST.out.le
        clear y0 y1 y2 hn hq
        have hmk := fun w => run_make_bools n (by omega) w
        have hg : z ≠ w3.heap.size ∧ c ≠ w3.heap.size ∧ w.heap.size ≤ w3.heap.size := ⟨by have := E3.out.lt; omega, by have := O3.out.1.lt; omega, O3.out.2.2.size⟩
        have HG := Lib.hid hg
        have M5 : Hid (BlkB (w3.alloc (.cells (cellsB (List.replicate n false)) 4)) w3.heap.size (seenL n (paidN L s m) 0)) := Lib.hid (by rw [seenL_zero]; exact Blk.new _ _ _)
        have E5 := Lib.hid (E3.out.alloc (.cells (cellsB (List.replicate n false)) 4))
        have O5 := Lib.hid (O3.out.alloc (.cells (cellsB (List.replicate n false)) 4))
        have B5 : Hid (Bools (w3.alloc (.cells (cellsB (List.replicate n false)) 4)) (fun i => i = w3.heap.size) al L) := Lib.hid ((B3.out.other (fun i h e => by omega)).below ((Below.refl _ w3).alloc (Nat.le_refl _) _))
        have J5 : Hid (IntsAt (w3.alloc (.cells (cellsB (List.replicate n false)) 4)) (fun i => i = w3.heap.size) a3 (paidZ L s m)) := Lib.hid ((J3.out.other (fun i h e => by omega)).below ((Below.refl _ w3).alloc (Nat.le_refl _) _))
        clear hg E3 O3 B3 J3
        obtain ⟨vv, hvv⟩ : ∃ vv, max v 0 = vv := ⟨_, rfl⟩
        obtain ⟨pp, hpp⟩ : ∃ pp, max p 0 = pp := ⟨_, rfl⟩
        have d1 : decide ((m : Int) < 0) = false := decide_eq_false (by omega)
        have d2 : decide (vv < (m : Int)) = false := decide_eq_false (by omega)
        have d3 : decide (n < m) = false := decide_eq_false (by omega)
        have d4 : decide (pp < (q : Int)) = false := decide_eq_false (by omega)
        have d5 : decide (m < q) = false := decide_eq_false (by omega)
        clear hmv hqp
        go_wp2
        clear z0 z1 z2 hmk d1 d2 d3 d4 d5 hvv hpp
        generalize w3.heap.size = g at *
        generalize (w3.alloc (.cells (cellsB (List.replicate n false)) 4)) = w5 at *
        go_loopw [71] (fun s71 wx => ∃ j : Nat, j ≤ q ∧ s71 = .int .i64 j ∧ Hid (BlkB wx g (seenL n (paidN L s m) j)) ∧ Hid (Kept (fun i => i = g) w5 wx)) (fun s71 _ => q - (intOf s71).toNat)
        case atStart => exact ⟨0, by omega, rfl, M5, Lib.hid (Kept.refl _ _)⟩
        case round =>
          obtain ⟨j, hj, rfl, HM, HK⟩ := hrel
          have EX : Hid (Blk wr z 29 (cellsR ⟨al, cl, L, v, p⟩)) := Lib.hid (E5.out.kept HK.out HG.out.1)
          by_cases hjq : j < q
          · have hq' : (paidN L s m).length = q := by rw [← paidZ_len]; exact HQ.out
            obtain ⟨i, hi⟩ : ∃ i, (paidN L s m)[j]? = some i := ⟨_, List.getElem?_eq_getElem (by omega)⟩
            obtain ⟨⟨t, ht, hit⟩, hiL⟩ := paidN_mem (List.mem_of_getElem? hi)
            have hin : i < n := by have := getD_true_lt hiL; rw [HN.out] at this; exact this
            have hz := paidZ_at (s := s) (m := m) hi
            obtain ⟨pb, po, ha3, hpb, hpl, hpc⟩ := J5.out (by rw [HQ.out]; omega)
            have p1 : wr.cell? ⟨pb, po + j, none⟩ = some (.int .i64 i) := by
              have := HK.out.cell (p := ⟨pb, po + j, none⟩) hpb (hpc j (by rw [HQ.out]; omega))
              rw [this, hz]
            obtain ⟨rb, ro, hal, hrb, hrl, hrc⟩ := B5.out (by rw [HN.out]; omega)
            have p2 : wr.cell? ⟨rb, ro + i, none⟩ = some (.bool true) := by
              have := HK.out.cell (p := ⟨rb, ro + i, none⟩) hrb (hrc i (by rw [HN.out]; omega))
              rw [this, hiL]
            have p3 : wr.cell? ⟨g, i, none⟩ = some (.bool false) := by
              rw [HM.out.cell (by rw [seenL_len]; exact hin), seenL_at hin, decide_eq_false (seenL_new (paidN_nodup (by rw [HN.out]; exact hmn)) hi)]
            have f3 := HM.out.frozen i
            have z0 : wr.cell? ⟨z, 0, none⟩ = some (.slice al n cl) := by rw [← HN.out]; exact EX.out.cell 0
            have HM2 : Hid (BlkB (wr.setCell ⟨g, i, none⟩ (.bool true)) g (seenL n (paidN L s m) (j + 1))) := Lib.hid (by rw [← seenL_succ hi hin]; exact HM.out.set i true)
            have HK2 : Hid (Kept (fun i => i = g) w5 (wr.setCell ⟨g, i, none⟩ (.bool true))) := Lib.hid (HK.out.setCell (p := ⟨g, i, none⟩) (.inl rfl) _)
            subst ha3 hal
            clear hi hit hiL hz hpc hrc hq' EX HM HK
            go_wp2
            go_roundw
            case rel => exact ⟨j + 1, by omega, by go_num, HM2, HK2⟩
            case measure => simp [intOf]; omega
          · obtain rfl : j = q := by omega
            have O6 : Hid (Own w wr c (posN L.length s m)) := Lib.hid (O5.out.side HK.out HG.out.2.1 HG.out.2.2)
            obtain ⟨s', hs'⟩ : ∃ s', posN L.length s m = s' := ⟨_, rfl⟩
            rw [hs'] at O6 hs2
            clear hjq hs' EX hqm hmn hl100
            have hjq : ¬ j < j := by omega
            go_wp2
            go_roundw
            case rel => exact ⟨k + 1, s', by omega, hs2, by go_num, O6⟩
            case measure => simp [intOf]; omega
      · obtain rfl : k = len0 := by omega
        clear hkl
        have hkl : ¬ k < k := by omega
        go_wp2_with fail
        refine (alive_any _).mono ?_
        rintro e w3 ⟨rfl, hb⟩
        have HB := Lib.hid (O.out.2.2.trans (hb.mono O.out.2.2.size))
        clear hb
        go_wp2_with fail
        go_ret
        exact ⟨rfl, HB.out⟩
end Go.Proofs.Ytokkdeoimhibpaa
