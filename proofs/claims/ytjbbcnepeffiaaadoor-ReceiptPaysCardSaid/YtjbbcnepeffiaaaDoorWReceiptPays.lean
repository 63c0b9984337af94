/- The statement ReceiptPays, walked: it returns true for every list of receipts. -/
import Derived.Test.YtjbbcnepeffiaaaDoorLaw
import Derived.Test.YtjbbcnepeffiaaaDoorRPaid
namespace Go.Proofs.YtjbbcnepeffiaaaDoor
open Go Go.RowKit Go.Deep
set_option linter.unusedVariables false
set_option linter.unusedSimpArgs false
set_option maxRecDepth 100000

theorem pays_of {w : World} : ∀ l : List Rc, (∀ v ∈ l, FitsRc w v ∧ v.pn ≤ 1000) → ∃ P, PaysAt w l P
  | [], _ => ⟨[], rfl, fun i v p h => by simp at h⟩
  | v :: l, h => by
    obtain ⟨⟨la, lp, hr⟩, hp⟩ := h v (by simp)
    obtain ⟨P, h1, h2⟩ := pays_of l (fun u hu => h u (by simp [hu]))
    refine ⟨lp :: P, by simp [h1], fun i u p hu hp2 => ?_⟩
    cases i with
    | zero =>
      simp at hu hp2
      subst hu hp2
      exact ⟨⟨la, hr⟩, by rw [hr.pn]; exact hp⟩
    | succ i =>
      simp only [List.getElem?_cons_succ] at hu hp2
      exact h2 i u p hu hp2
set_option maxHeartbeats 3200000 in
theorem walk_ReceiptPays (a0 : Option Addr) (len0 cap0 : Nat) (w : World) (w0 : IsRcs w a0 len0 cap0) (hL : laidMetH Tryd.prog Rows.receiptSameRow.laid w) :
    Calls Tryd.prog 6 #[.slice a0 len0 cap0] w fun e w' => e = .returned (.bool true) ∧ Below w.heap.size w w' := by
  obtain ⟨hle, hcap, l, hll, hfit, hlst⟩ := w0
  have HV := Lib.hid (vars_of_laid hL)
  have HA := Lib.hid (fun w h => alive_any w h)
  have HL := Lib.hid hlst
  have HN := Lib.hid hll
  have HF := Lib.hid hfit
  have hlen : len0 ≤ 9223372036854775807 := by unfold maxLen at hcap; omega
  clear hL hlst hll hfit hle hcap
  by_cases hb : (60 : Int) < (len0 : Int)
  · go_enter Tryd.func6, Tryd.ntmps6
    go_wp2_with (fail)
    refine (HA.out w HV.out).mono ?_
    rintro e w2 ⟨rfl, b2⟩
    have B2 := Lib.hid b2
    clear b2
    go_wp2_with (fail)
    go_ret
    exact ⟨rfl, B2.out⟩
  · have HB : Hid (len0 ≤ 60) := Lib.hid (by omega)
    go_enter Tryd.func6, Tryd.ntmps6
    go_wp2_with (fail)
    clear hb
    go_loopw [15] (fun i wr => ∃ k : Nat, k ≤ len0 ∧ i = .int .i64 k ∧ Hid (∀ (j : Nat) (v : Rc), j < k → l[j]? = some v → fewB v = true) ∧ Hid (Below w.heap.size w wr)) (fun i _ => len0 - (intOf i).toNat)
    case atStart => exact ⟨0, by omega, rfl, Lib.hid (fun j v hj => by omega), Lib.hid (Below.refl _ _)⟩
    case round =>
      obtain ⟨k, hk, rfl, HQ, B0⟩ := hrel
      by_cases hlt : k < len0
      · obtain ⟨v, hv⟩ : ∃ v, l[k]? = some v := ⟨_, List.getElem?_eq_getElem (by rw [HN.out]; exact hlt)⟩
        obtain ⟨b, off, rfl, _, hbl, hrg⟩ := HL.out.at hv
        obtain ⟨la, lp, hr⟩ := HF.out v (List.mem_of_getElem? hv)
        have HFW := Lib.hid (fun w => few_any v w hr.lens.1 hr.lens.2)
        have RG := Lib.hid (rangeAt_same hrg (B0.out.block b hbl))
        have K1 : Hid (Blk (wr.alloc (.cells (cellsRc v) 26)) wr.heap.size 26 (cellsRc v)) := Lib.hid (Blk.new _ _ _)
        have B1 : Hid (Below w.heap.size w (wr.alloc (.cells (cellsRc v) 26))) := Lib.hid (B0.out.alloc B0.out.size _)
        have HX := Lib.hid hv
        clear hrg hr hv hbl
        go_upto_region 6 with (first | (refine wpList_load_Rc rfl 26 _ rfl b (off + k * 9) rfl v _ RG.out Tryd.underlying26 rfl infoRc ?_) | (refine wpList_store_row rfl _ _ _ rfl wr.heap.size (cellsRc v) rfl rfl 26 _ (heap_alloc_new wr _) infoRc rfl (cellsRc_one _) ?_; rw [World.setRow_alloc_new]))
        clear RG B0
        generalize wr.alloc (.cells (cellsRc v) 26) = w1 at *
        generalize wr.heap.size = rb at *
        go_wp2_with (refine wpList_load_row rfl 26 _ rfl rb rfl 26 (cellsRc v) (0, 0) _ K1.out Tryd.underlying26 rfl infoRc ?_)
        refine (HFW.out w1).mono ?_
        cases hf : fewB v with
        | false =>
          rintro e w2 ⟨rfl, b2⟩
          have B2 := Lib.hid (B1.out.trans (b2.mono B1.out.size))
          clear b2 hf HFW B1 K1
          go_wp2_with (fail)
          refine (HA.out w2 (HV.out.below B2.out)).mono ?_
          rintro e w3 ⟨rfl, b3⟩
          have B3 := Lib.hid (B2.out.trans (b3.mono B2.out.size))
          clear b3
          go_wp2_with (fail)
          go_ret
          exact ⟨rfl, B3.out⟩
        | true =>
          have HQ2 : Hid (∀ (j : Nat) (v : Rc), j < k + 1 → l[j]? = some v → fewB v = true) := Lib.hid (fun j u hj hu => by
            rcases Nat.lt_or_ge j k with h | h
            · exact HQ.out j u h hu
            · obtain rfl : j = k := by omega
              rw [HX.out] at hu
              injection hu with hu
              rw [← hu]; exact hf)
          rintro e w2 ⟨rfl, b2⟩
          have B2 := Lib.hid (B1.out.trans (b2.mono B1.out.size))
          clear b2 hf HFW B1 K1
          go_wp2_with (fail)
          go_roundw
          case rel => exact ⟨k + 1, by omega, by go_num, HQ2, B2⟩
          case measure => simp [intOf]; omega
      · obtain rfl : k = len0 := by omega
        obtain ⟨P, hP⟩ := pays_of l (fun v hv => ⟨HF.out v hv, by
          obtain ⟨j, hj⟩ := List.mem_iff_getElem?.1 hv
          have := few_yes (HQ.out j v (by rw [← HN.out]; exact (List.getElem?_eq_some_iff.1 hj).1) hj)
          omega⟩)
        have HP := Lib.hid (fun w' (h : Below w.heap.size w w') => paid_any a0 k cap0 l P w' (HL.out.below h) HN.out ⟨hP.1, fun i v p hv hp => ⟨by
          obtain ⟨la, hr⟩ := (hP.2 i v p hv hp).1
          exact ⟨la, hr.below h⟩, (hP.2 i v p hv hp).2⟩⟩ (by have := HB.out; omega))
        have HR := Lib.hid (fun w' (h : Below w.heap.size w w') => refpaid_any a0 k cap0 l P w' (HL.out.below h) HN.out ⟨hP.1, fun i v p hv hp => ⟨by
          obtain ⟨la, hr⟩ := (hP.2 i v p hv hp).1
          exact ⟨la, hr.below h⟩, (hP.2 i v p hv hp).2⟩⟩ (by have := HB.out; omega))
        generalize paidQ P = q at *
        generalize paidOk P = ok at *
        clear hlt hP
        have hlt : ¬ k < k := by omega
        go_wp2_with (fail)
        refine (HP.out wr B0.out).mono ?_
        rintro e w3 ⟨rfl, b3⟩
        have B3 := Lib.hid (B0.out.trans (b3.mono B0.out.size))
        clear b3 B0
        go_wp2_with (fail)
        refine (HR.out w3 B3.out).mono ?_
        rintro e w4 ⟨rfl, b4⟩
        have B4 := Lib.hid (B3.out.trans (b4.mono B3.out.size))
        clear b4 B3
        go_wp2_with (fail)
        refine (HA.out w4 (HV.out.below B4.out)).mono ?_
        rintro e w5 ⟨rfl, b5⟩
        have B5 := Lib.hid (B4.out.trans (b5.mono B4.out.size))
        clear b5 B4
        go_wp2_with (fail)
        go_ret
        exact ⟨rfl, B5.out⟩
end Go.Proofs.YtjbbcnepeffiaaaDoor
