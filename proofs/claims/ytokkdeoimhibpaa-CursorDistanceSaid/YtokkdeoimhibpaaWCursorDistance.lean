/- The walk of CursorDistance. -/
import Derived.Test.YtokkdeoimhibpaaMade
namespace Go.Proofs.Ytokkdeoimhibpaa
open Go Go.RowKit Go.Deep
set_option linter.unusedVariables false
set_option linter.unusedSimpArgs false

theorem i64_wf' {x : Int} (h : (Lit.int .i64 x).wf = true) : -9223372036854775808 ≤ x ∧ x ≤ 9223372036854775807 := by
  simp [Lit.wf, IntKind.min, IntKind.max, IntKind.signed, IntKind.bits] at h
  omega
/-- Where the law's sweeps are done. -/
def AtEnd (w w' : World) (c : Nat) : Prop := ∃ s : Nat, s ≤ 100 ∧ Own w w' c s
set_option maxHeartbeats 1600000 in
theorem walk_CursorDistance (a0 : Option Addr) (len0 cap0 : Nat) (a1 a2 : Int) (w : World) (w0 : IsRounds w a0 len0 cap0) (w1 : (Lit.int .i64 a1).wf = true) (w2 : (Lit.int .i64 a2).wf = true) :
    Calls Try.prog 5 #[.slice a0 len0 cap0, .int .i64 a1, .int .i64 a2] w fun e w' => e = .returned (.bool true) ∧ Below w.heap.size w w' := by
  obtain ⟨l1, l2, R, hR⟩ := w0
  have hl : len0 ≤ 9223372036854775807 := by unfold maxLen at l2; omega
  have ⟨hn0, hn1⟩ := i64_wf' w1
  have H := Lib.hid hR
  have H9 := Lib.hid (fun w => new_any w)
  clear l1 l2 hR w1 w2
  go_enter Try.func5, Try.ntmps5
  go_wp2_with fail
  refine (H9.out _).mono ?_
  rintro e w1 ⟨c, rfl, hcw, HC, hb⟩
  have O1 : Hid (Own w w1 c 0) := Lib.hid (Own.new hcw HC.out hb)
  have HF : Hid (RoundsAt w1 a0 len0 R) := Lib.hid (fun h0 => by
    obtain ⟨b, off, e, hbl, hc⟩ := H.out h0
    exact ⟨b, off, e, Nat.lt_of_lt_of_le hbl hb.size, fun i hi => ⟨fun j u hu => (hb.cell (p := ⟨b, off + i * 3 + j, none⟩) hbl).trans ((hc i hi).1 j u hu), (hc i hi).2.1.below hb, (hc i hi).2.2⟩⟩)
  clear hb HC hcw
  go_wp2_with fail
  refine (few_any a0 len0 cap0 R w1 HF.out hl).mono ?_
  rintro e w2 ⟨r, rfl, hr, hb⟩
  have O2 := Lib.hid (O1.out.below hb)
  have HR := Lib.hid hr
  clear hb O1 HF hr
  cases r
  · go_wp2_with fail
    refine (alive_any _).mono ?_
    rintro e w3 ⟨rfl, hb⟩
    have HB := Lib.hid (O2.out.2.2.trans (hb.mono O2.out.2.2.size))
    clear hb
    go_wp2_with fail
    go_ret
    exact ⟨rfl, HB.out⟩
  · have h40 := (HR.out rfl).1
    have HR2 := Lib.hid (HR.out rfl).2
    clear HR
    go_wp2
    go_loopw [24] (fun s24 wr => ∃ k s : Nat, k ≤ len0 ∧ s ≤ 100 ∧ s24 = .int .i64 k ∧ Hid (Own w wr c s)) (fun s24 _ => len0 - (intOf s24).toNat)
    case atStart => exact ⟨0, 0, by omega, by omega, rfl, O2⟩
    case round =>
      obtain ⟨k, s, hk, hs, rfl, O⟩ := hrel
      by_cases hkl : k < len0
      · obtain ⟨b, off, rfl, hbl, hx, hB, _⟩ := H.out.at O.out.2.2 hkl
        have hl100 := HR2.out k hkl
        obtain ⟨r, hr⟩ : ∃ r, R k = r := ⟨_, rfl⟩
        rw [hr] at hx hB hl100
        clear hr
        have x0 : (wr.alloc (.cells (cellsR r) 29)).cell? ⟨wr.heap.size, 0, none⟩ = some (.slice r.al r.L.length r.cl) := (Blk.new wr _ (cellsR r)).cell 0
        have x1 : (wr.alloc (.cells (cellsR r) 29)).cell? ⟨wr.heap.size, 1, none⟩ = some (.int .i64 r.v) := (Blk.new wr _ (cellsR r)).cell 1
        have x2 : (wr.alloc (.cells (cellsR r) 29)).cell? ⟨wr.heap.size, 2, none⟩ = some (.int .i64 r.p) := (Blk.new wr _ (cellsR r)).cell 2
        have OE := Lib.hid (O.out.alloc (.cells (cellsR r) 29))
        have BE : Hid (Bools (wr.alloc (.cells (cellsR r) 29)) (fun i => i = c) r.al r.L) := Lib.hid ((hB.out.other (fun i _ h => by rw [h]; exact O.out.2.1)).below ((Below.refl _ _).alloc (Nat.le_refl _) _))
        have H1 := Lib.hid (OE.out.sweep r.al r.cl r.L r.v r.p hs hl100 BE.out)
        go_wp2_with (first | (refine wpList_load_rnd rfl 29 _ rfl b (off + k * 3) rfl r _ hx.out Try.underlying29 rfl infoR ?_) | (refine wpList_store_row rfl _ _ _ rfl wr.heap.size (cellsR r) rfl rfl 29 _ (heap_alloc_new wr _) infoR rfl (cellsR_one r) ?_; rw [World.setRow_alloc_new]))
        refine H1.out.mono ?_
        rintro e w3 ⟨m, a3, cp3, rfl, hst, _, O3, _⟩
        have hs2 : posN r.L.length s m ≤ 100 := posN_le hl100 hs hst.out.le
        obtain ⟨s', hs'⟩ : ∃ s', posN r.L.length s m = s' := ⟨_, rfl⟩
        rw [hs'] at hs2 O3
        clear hst hs' x0 x1 x2 H1 OE BE
        go_wp2_with fail
        go_roundw
        case rel => exact ⟨k + 1, s', by omega, hs2, by go_num, O3⟩
        case measure => simp [intOf]; omega
      · obtain rfl : k = len0 := by omega
        clear hkl
        have hkl : ¬ k < k := by omega
        by_cases hout : a2 < 0 ∨ a1 ≤ a2
        · have HD := Lib.hid (distance_out c a1 a2 wr hout)
          have hout2 : a2 < 0 ∨ ¬ a2 < 0 ∧ a1 ≤ a2 := by omega
          clear hout
          rcases hout2 with h1 | ⟨h1, h2⟩
          all_goals
            go_wp2_with fail
            refine HD.out.mono ?_
            rintro e w3 ⟨rfl, rfl⟩
            go_wp2_with fail
            refine (alive_any _).mono ?_
            rintro e w3 ⟨rfl, hb⟩
            have HB := Lib.hid (O.out.2.2.trans (hb.mono O.out.2.2.size))
            clear hb
            go_wp2_with fail
            go_ret
            exact ⟨rfl, HB.out⟩
        · have h1 : ¬ a2 < 0 := by omega
          have h2 : ¬ a1 ≤ a2 := by omega
          have h3 : 0 ≤ a2 := by omega
          have h4 : a2 < a1 := by omega
          clear hout
          have HD := Lib.hid (distance_any c s a1 a2 wr O.out.1 hs (by omega) (by omega) hn1)
          go_wp2_with fail
          refine HD.out.mono ?_
          rintro e w3 ⟨d, rfl, hd, rfl⟩
          have hdlt : (d : Int) < a1 := by rw [← hd]; exact Int.emod_lt_of_pos _ (by omega)
          have HDD := Lib.hid hd
          clear hd HD
          by_cases h100 : 100 < a1
          · have hd0 : 0 ≤ (d : Int) := by omega
            go_wp2_with fail
            refine (alive_any _).mono ?_
            rintro e w3 ⟨rfl, hb⟩
            have HB := Lib.hid (O.out.2.2.trans (hb.mono O.out.2.2.size))
            clear hb
            go_wp2_with fail
            go_ret
            exact ⟨rfl, HB.out⟩
          · obtain ⟨n, rfl⟩ : ∃ n : Nat, a1 = n := ⟨a1.toNat, by omega⟩
            obtain ⟨i, rfl⟩ : ∃ i : Nat, a2 = i := ⟨a2.toNat, by omega⟩
            have hin : i < n := by omega
            have hn100 : n ≤ 100 := by omega
            have hdn : d < n := by omega
            have hdist := dist_mod hin HDD.out
            have HE := Lib.hid hdist.2
            have hmk := fun w => run_make_bools n (by omega) w
            have HA := Lib.hid (at_any c s wr O.out.1)
            clear hdist
            go_wp2_with fail
            refine HA.out.mono ?_
            rintro e w3 ⟨rfl, rfl⟩
            have G1 : Hid (BlkB (wr.alloc (.cells (cellsB (List.replicate n false)) 4)) wr.heap.size (List.replicate n false)) := Lib.hid (Blk.new _ _ _)
            have x1 : (wr.alloc (.cells (cellsB (List.replicate n false)) 4)).cell? ⟨wr.heap.size, i, none⟩ = some (.bool false) := by
              rw [G1.out.cell (by simpa using hin)]
              simp [List.getElem?_replicate, hin]
            have f1 := G1.out.frozen i
            have G2 : Hid (BlkB (wr.alloc (.cells ((cellsB (List.replicate n false)).setIfInBounds i (.bool true)) 4)) wr.heap.size (oneL n i)) := Lib.hid (by rw [cellsB_set]; exact Blk.new _ _ _)
            have hcw : c ≠ wr.heap.size := by have := O.out.1.lt; omega
            have O4 : Hid (Own w (wr.alloc (.cells ((cellsB (List.replicate n false)).setIfInBounds i (.bool true)) 4)) c s) := Lib.hid (O.out.alloc _)
            have H5 : Hid (Calls Try.prog 13 #[.pointer (some ⟨c, 0, none⟩), .slice (some ⟨wr.heap.size, 0, none⟩) n n, .int .i64 n, .int .i64 1] (wr.alloc (.cells ((cellsB (List.replicate n false)).setIfInBounds i (.bool true)) 4)) fun e w' =>
                ∃ (a1 : Option Addr) (cp : Nat), e = .returned (.tuple #[.slice a1 1 cp, .int .i64 ((d : Int) + 1)]) ∧ Hid (IntsAt w' (fun _ => False) a1 [(i : Int)]) ∧ Hid (Below w.heap.size w w')) := Lib.hid (by
              refine (O4.out.sweep_to (some ⟨wr.heap.size, 0, none⟩) n n (d + 1) 1 (oneL n i) [(i : Int)] _ n 1 hs (by rw [oneL_len]; exact hn100) (G2.out.bools (fun e => hcw e.symm)) (oneL_stop hin hdn HE.out) (oneL_len n i) (by rw [paidZ, oneL_paid hin hdn HE.out]; rfl) rfl rfl).mono ?_
              rintro e w' ⟨a1, cp, he, h1, h2, h3⟩
              exact ⟨a1, cp, he, Lib.hid (h1.out.other (fun _ _ h => h.elim)), Lib.hid h2.out.2.2⟩)
            clear G2 O4
            go_wp2_with fail
            refine H5.out.mono ?_
            rintro e w4 ⟨a5, cp5, rfl, I5, B5⟩
            clear H5 G1 x1 f1 hmk HA O
            go_wp2_with fail
            refine (alive_any _).mono ?_
            rintro e w5 ⟨rfl, hb⟩
            have B6 := Lib.hid (B5.out.trans (hb.mono B5.out.size))
            have I6 : Hid (IntsAt (w5.alloc (.cells #[.int .i64 i] 3)) (fun _ => False) a5 [(i : Int)]) := Lib.hid ((I5.out.below hb).below ((Below.refl _ w5).alloc (Nat.le_refl _) _))
            have B7 := Lib.hid (B6.out.alloc B6.out.size (.cells #[.int .i64 (i : Int)] 3))
            have L6 : Hid (IntsAt (w5.alloc (.cells #[.int .i64 i] 3)) (fun _ => False) (some ⟨w5.heap.size, 0, none⟩) [(i : Int)]) := Lib.hid (IntsAt.of_blk (Blk.new w5 3 #[.int .i64 (i : Int)]) (fun h => h))
            have hmod : ((s : Int) + (d : Int)) % (n : Int) = (i : Int) := by
              rw [← HE.out, Int.natCast_emod]; rfl
            clear hb I5 B5 B6
            go_wp2_with fail
            refine (equal_same (n := 1) I6.out L6.out rfl (by decide)).mono ?_
            rintro e w7 ⟨rfl, m, rfl⟩
            have B8 := Lib.hid (below_drewN B7.out m)
            go_wp2_with fail
            go_ret
            exact ⟨rfl, B8.out⟩
end Go.Proofs.Ytokkdeoimhibpaa
