/- The walk of CursorSweeps. -/
import Derived.Test.YtokkdeoimhibpaaLive
import Derived.Test.YtokkdeoimhibpaaArg
namespace Go.Proofs.Ytokkdeoimhibpaa
open Go Go.RowKit Go.Deep
set_option linter.unusedVariables false
set_option linter.unusedSimpArgs false

set_option maxHeartbeats 1600000 in
theorem walk_CursorSweeps (a0 : Option Addr) (len0 cap0 : Nat) (w : World) (w0 : IsRounds w a0 len0 cap0) :
    Calls Try.prog 3 #[.slice a0 len0 cap0] w fun e w' => e = .returned (.bool true) ∧ Below w.heap.size w w' := by
  obtain ⟨l1, l2, R, hR⟩ := w0
  have hl : len0 ≤ 9223372036854775807 := by unfold maxLen at l2; omega
  have H := Lib.hid hR
  have H9 := Lib.hid (fun w => new_any w)
  clear l1 l2 hR
  go_enter Try.func3, Try.ntmps3
  go_wp2_with fail
  refine (H9.out _).mono ?_
  rintro e w1 ⟨c, rfl, hcw, HC, hb⟩
  have O1 : Hid (Own w w1 c 0) := Lib.hid (Own.new hcw HC.out hb)
  have HF : Hid (RoundsAt w1 a0 len0 R) := Lib.hid (fun h0 => by
    obtain ⟨b, off, e, hbl, hc⟩ := H.out h0
    exact ⟨b, off, e, Nat.lt_of_lt_of_le hbl hb.size, fun i hi => ⟨fun j u hu => (hb.cell (p := ⟨b, off + i * 3 + j, none⟩) hbl).trans ((hc i hi).1 j u hu), (hc i hi).2.1.below hb, (hc i hi).2.2⟩⟩)
  clear hb HC hcw
  go_wp2_with fail
  refine (few_any a0 len0 cap0 R w1 HF.out hl).mono ?_
  rintro e w2 ⟨r, rfl, hr, hb⟩
  have O2 := Lib.hid (O1.out.below hb)
  have HR := Lib.hid hr
  clear hb O1 HF hr
  cases r
  · go_wp2_with fail
    refine (alive_any _).mono ?_
    rintro e w3 ⟨rfl, hb⟩
    have HB := Lib.hid (O2.out.2.2.trans (hb.mono O2.out.2.2.size))
    clear hb
    go_wp2_with fail
    go_ret
    exact ⟨rfl, HB.out⟩
  · have h40 := (HR.out rfl).1
    have HR2 := Lib.hid (HR.out rfl).2
    clear HR
    go_wp2
    go_loopw [4, 20] (fun s4 s20 wr => ∃ k s : Nat, k ≤ len0 ∧ s ≤ 100 ∧ s4 = .int .i64 s ∧ s20 = .int .i64 k ∧ Hid (Own w wr c s)) (fun _ s20 _ => len0 - (intOf s20).toNat)
    case atStart => exact ⟨0, 0, by omega, by omega, rfl, rfl, O2⟩
    case round =>
      obtain ⟨k, s, hk, hs, rfl, rfl, O⟩ := hrel
      by_cases hkl : k < len0
      · obtain ⟨b, off, rfl, hbl, hx, hB, _⟩ := H.out.at O.out.2.2 hkl
        have hl100 := HR2.out k hkl
        obtain ⟨r, hr⟩ : ∃ r, R k = r := ⟨_, rfl⟩
        rw [hr] at hx hB hl100
        clear hr
        have x0 : (wr.alloc (.cells (cellsR r) 29)).cell? ⟨wr.heap.size, 0, none⟩ = some (.slice r.al r.L.length r.cl) := (Blk.new wr _ (cellsR r)).cell 0
        have x1 : (wr.alloc (.cells (cellsR r) 29)).cell? ⟨wr.heap.size, 1, none⟩ = some (.int .i64 r.v) := (Blk.new wr _ (cellsR r)).cell 1
        have x2 : (wr.alloc (.cells (cellsR r) 29)).cell? ⟨wr.heap.size, 2, none⟩ = some (.int .i64 r.p) := (Blk.new wr _ (cellsR r)).cell 2
        have HE : Hid (Blk (wr.alloc (.cells (cellsR r) 29)) wr.heap.size 29 (cellsR r)) := Lib.hid (Blk.new _ _ _)
        have OE := Lib.hid (O.out.alloc (.cells (cellsR r) 29))
        have BE : Hid (Bools (wr.alloc (.cells (cellsR r) 29)) (fun i => w.heap.size ≤ i) r.al r.L) := Lib.hid (hB.out.below ((Below.refl _ _).alloc (Nat.le_refl _) _))
        have H1 := Lib.hid (rsweep_any s r.al r.cl r.L r.v r.p (wr.alloc (.cells (cellsR r) 29)) hs hl100 (BE.out.other (fun _ _ h => h.elim)))
        go_wp2_with (first | (refine wpList_load_rnd rfl 29 _ rfl b (off + k * 3) rfl r _ hx.out Try.underlying29 rfl infoR ?_) | (refine wpList_store_row rfl _ _ _ rfl wr.heap.size (cellsR r) rfl rfl 29 _ (heap_alloc_new wr _) infoR rfl (cellsR_one r) ?_; rw [World.setRow_alloc_new]))
        refine H1.out.mono ?_
        rintro e w3 ⟨m, a1, cp1, rfl, hst, I3, hb3⟩
        have O3 := Lib.hid (OE.out.below hb3)
        have B3 : Hid (Bools w3 (fun i => i = c) r.al r.L) := Lib.hid ((BE.out.other (fun i _ h => by rw [h]; exact O.out.2.1)).below hb3)
        have y0 := (hb3.cell (p := ⟨wr.heap.size, 0, none⟩) (by simp)).trans x0
        have y1 := (hb3.cell (p := ⟨wr.heap.size, 1, none⟩) (by simp)).trans x1
        have y2 := (hb3.cell (p := ⟨wr.heap.size, 2, none⟩) (by simp)).trans x2
        have HST := Lib.hid hst
        have J3 : Hid (IntsAt w3 (fun i => i = c) a1 (paidZ r.L s m)) := Lib.hid (I3.out.other (fun i _ h => by rw [h]; exact OE.out.1.lt))
        clear hst hb3 HE OE BE x0 x1 x2 H1 I3
        have H2 := Lib.hid (O3.out.sweep r.al r.cl r.L r.v r.p hs hl100 B3.out)
        go_wp2_with fail
        refine H2.out.mono ?_
        rintro e w4 ⟨m', a2, cp2, rfl, HST', I4, O4, K4⟩
        obtain rfl := HST.out.unique HST'.out
        have J4 : Hid (IntsAt w4 (fun i => i = c) a1 (paidZ r.L s m)) := Lib.hid (J3.out.kept K4.out (fun _ _ h => h))
        have hq : (paidZ r.L s m).length ≤ 9223372036854775807 := by
          have := paidN_len r.L s m
          have := HST.out.le
          rw [paidZ_len]
          omega
        have hs2 : posN r.L.length s m ≤ 100 := posN_le hl100 hs HST.out.le
        obtain ⟨q, hq'⟩ : ∃ q, (paidZ r.L s m).length = q := ⟨_, rfl⟩
        have H3 := Lib.hid (equal_same (n := q) (c := cp2) (d := cp1) I4.out J4.out hq' (by omega))
        obtain ⟨s', hs'⟩ : ∃ s', posN r.L.length s m = s' := ⟨_, rfl⟩
        rw [hs'] at hs2 O4
        rw [hq', hs']
        clear H2 J3 J4 I4 B3 y0 y1 y2 HST HST' hq hq' hs' O3
        go_wp2_with fail
        refine H3.out.mono ?_
        rintro e w5 ⟨rfl, z, rfl⟩
        have O5 := Lib.hid (O4.out.drewN z)
        clear H3 K4 O4
        generalize w4.drewN z = w5 at *
        have H4 := Lib.hid (at_any c s' w5 O5.out.1)
        go_wp2_with fail
        refine H4.out.mono ?_
        rintro e w6 ⟨rfl, rfl⟩
        go_wp2_with fail
        go_roundw
        case rel => exact ⟨k + 1, s', by omega, hs2, rfl, by go_num, O5⟩
        case measure => simp [intOf]; omega
      · obtain rfl : k = len0 := by omega
        clear hkl
        have hkl : ¬ k < k := by omega
        go_wp2_with fail
        refine (alive_any _).mono ?_
        rintro e w3 ⟨rfl, hb⟩
        have HB := Lib.hid (O.out.2.2.trans (hb.mono O.out.2.2.size))
        clear hb
        go_wp2_with fail
        go_ret
        exact ⟨rfl, HB.out⟩
end Go.Proofs.Ytokkdeoimhibpaa
