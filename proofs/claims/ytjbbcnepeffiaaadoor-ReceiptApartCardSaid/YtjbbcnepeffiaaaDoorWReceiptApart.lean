/- The statement ReceiptApart, walked: it returns true for every pair of receipts. -/
import Derived.Test.YtjbbcnepeffiaaaDoorLaw
namespace Go.Proofs.YtjbbcnepeffiaaaDoor
open Go Go.RowKit Go.Deep
set_option linter.unusedVariables false
set_option linter.unusedSimpArgs false
set_option maxRecDepth 100000

/-- The receipt of an accepted tick that the law makes of one. -/
def tickR (r : Rc) : Rc := { r with kd := 7, cd := 0, ix := -1, dl := -1 }
theorem RcAt.tick {w : World} {S : Nat → Prop} {r : Rc} {la : List As} {lp : List Pm} (h : RcAt w S r la lp) : RcAt w S (tickR r) la lp :=
  ⟨⟨(show I64 7 by unfold I64; decide), (show I64 0 by unfold I64; decide), (show I64 (-1) by unfold I64; decide), h.nums.bl, h.nums.ep, (show I64 (-1) by unfold I64; decide), h.nums.vs⟩, h.asg, h.an, h.ac, h.fa, h.pay, h.pn, h.pc, h.fp⟩
/-- Two boxes and a list of the pointers to them. -/
structure AP (w0 w : World) (ra rb pb : Nat) (r s : Rc) : Prop where
  bx : RF2 w0 w ra rb r s
  pp : Blk w pb 48 #[.pointer (some ⟨ra, 0, none⟩), .pointer (some ⟨rb, 0, none⟩)]
theorem AP.below {w0 w w' : World} {ra rb pb : Nat} {r s : Rc} (h : AP w0 w ra rb pb r s) (hb : Below w.heap.size w w') : AP w0 w' ra rb pb r s := ⟨h.bx.below hb, h.pp.below hb h.pp.lt⟩
theorem AP.alloc {w0 w : World} {ra rb pb : Nat} {r s : Rc} (h : AP w0 w ra rb pb r s) (o : Obj) : AP w0 (w.alloc o) ra rb pb r s := h.below ((Below.refl _ _).alloc (Nat.le_refl _) o)
/-- The four stores into a box of one's own. -/
def tickW (w : World) (b : Nat) : World := (((w.setCell ⟨b, 0, none⟩ (.int .i64 7)).setCell ⟨b, 1, none⟩ (.int .i64 0)).setCell ⟨b, 2, none⟩ (.int .i64 (-1))).setCell ⟨b, 5, none⟩ (.int .i64 (-1))
theorem tickW_blk {w : World} {b : Nat} {r : Rc} (h : Blk w b 26 (cellsRc r)) : Blk (tickW w b) b 26 (cellsRc (tickR r)) := by
  have h1 := h.set_ 0 (.int .i64 7)
  have h2 := h1.set_ 1 (.int .i64 0)
  have h3 := h2.set_ 2 (.int .i64 (-1))
  exact h3.set_ 5 (.int .i64 (-1))
theorem tickW_far {w : World} {b g : Nat} {t : TypeId} {cs : Array Value} (h : Blk w g t cs) (hg : g ≠ b) : Blk (tickW w b) g t cs := by
  have h1 := h.far (p := ⟨b, 0, none⟩) hg (.int .i64 7)
  have h2 := h1.far (p := ⟨b, 1, none⟩) hg (.int .i64 0)
  have h3 := h2.far (p := ⟨b, 2, none⟩) hg (.int .i64 (-1))
  exact h3.far (p := ⟨b, 5, none⟩) hg (.int .i64 (-1))
theorem tickW_below {B : Nat} {w0 w : World} {b : Nat} (h : Below B w0 w) (hb : B ≤ b) : Below B w0 (tickW w b) := by
  have h1 := h.setCell (p := ⟨b, 0, none⟩) hb (.int .i64 7)
  have h2 := h1.setCell (p := ⟨b, 1, none⟩) hb (.int .i64 0)
  have h3 := h2.setCell (p := ⟨b, 2, none⟩) hb (.int .i64 (-1))
  exact h3.setCell (p := ⟨b, 5, none⟩) hb (.int .i64 (-1))
set_option maxHeartbeats 6400000 in
theorem walk_ReceiptApart (a0 : Rc) (a1 : Rc) (w : World) (w0 : FitsRc w a0) (w1 : FitsRc w a1) (hL : laidMetH Tryd.prog Rows.receiptSameRow.laid w) :
    Calls Tryd.prog 8 #[.agg (cellsRc a0), .agg (cellsRc a1)] w fun e w' => e = .returned (.bool true) ∧ Below w.heap.size w w' := by
  obtain ⟨la, lp, hr⟩ := w0
  obtain ⟨lb, lq, hs⟩ := w1
  have HV := Lib.hid (vars_of_laid hL)
  have HR := Lib.hid hr
  have HS := Lib.hid hs
  have F0 : Hid (RF2 w ((w.alloc (.cells (cellsRc a0) 26)).alloc (.cells (cellsRc a1) 26)) w.heap.size (w.heap.size + 1) a0 a1) := Lib.hid ⟨(Blk.new w _ _).alloc _, by
    have h := Blk.new (w.alloc (.cells (cellsRc a0) 26)) 26 (cellsRc a1)
    rwa [show (w.alloc (.cells (cellsRc a0) 26)).heap.size = w.heap.size + 1 by simp] at h, ((Below.refl _ _).alloc (Nat.le_refl _) _).alloc (by simp) _⟩
  have HF0 := Lib.hid (fun w => few_any a0 w hr.lens.1 hr.lens.2)
  have HF1 := Lib.hid (fun w => few_any a1 w hs.lens.1 hs.lens.2)
  have HA := Lib.hid (fun w h => alive_any w h)
  obtain ⟨B, hB⟩ : ∃ B, sameB (tickR a0) (tickR a1) la lb lp lq = B := ⟨_, rfl⟩
  have HQ : Hid (∀ w', Below w.heap.size w w' → Calls Tryd.prog 12 #[.agg (cellsRc (tickR a0)), .agg (cellsRc (tickR a1))] w' fun e w'' => e = .returned (.bool B) ∧ Below w'.heap.size w' w'') := Lib.hid (fun w' h => by rw [← hB]; exact refsame_any _ _ la lb lp lq w' (HR.out.tick.below h) (HS.out.tick.below h))
  have HE : Hid ((∀ x ∈ la, Cls x) → (∀ x ∈ lb, Cls x) → decide (lineL (tickR a0) la lp = lineL (tickR a1) lb lq) = B) := Lib.hid (fun c1 c2 => by rw [← hB]; exact line_same ⟨rfl, rfl, rfl, rfl⟩ ⟨rfl, rfl, rfl, rfl⟩ c1 c2 hr.fp hs.fp)
  clear hL hr hs hB
  cases hf : fewB a0 with
  | false =>
    rw [hf] at HF0
    clear hf
    go_enter Tryd.func8, Tryd.ntmps8
    go_upto_region 1 with (fail)
    generalize (w.alloc (.cells (cellsRc a0) 26)).alloc (.cells (cellsRc a1) 26) = W at *
    go_wp2_with (refine wpList_load_row rfl 26 _ rfl w.heap.size rfl 26 (cellsRc a0) (0, 0) _ F0.out.one Tryd.underlying26 rfl infoRc ?_)
    refine (HF0.out W).mono ?_
    rintro e w1 ⟨rfl, b1⟩
    have F1 := Lib.hid (F0.out.below b1)
    clear b1 F0
    go_wp2_with (fail)
    refine (HA.out w1 (HV.out.below F1.out.bel)).mono ?_
    rintro e wl ⟨rfl, bl⟩
    have FL := Lib.hid (F1.out.below bl)
    clear bl
    go_wp2_with (fail)
    go_ret
    exact ⟨rfl, FL.out.bel⟩
  | true =>
    have HL0 := Lib.hid (HR.out.some hf)
    rw [hf] at HF0
    clear hf
    cases hg : fewB a1 with
    | false =>
      rw [hg] at HF1
      clear hg
      go_enter Tryd.func8, Tryd.ntmps8
      go_upto_region 1 with (fail)
      generalize (w.alloc (.cells (cellsRc a0) 26)).alloc (.cells (cellsRc a1) 26) = W at *
      go_wp2_with (refine wpList_load_row rfl 26 _ rfl w.heap.size rfl 26 (cellsRc a0) (0, 0) _ F0.out.one Tryd.underlying26 rfl infoRc ?_)
      refine (HF0.out W).mono ?_
      rintro e w1 ⟨rfl, b1⟩
      have F1 := Lib.hid (F0.out.below b1)
      clear b1 F0
      go_wp2_with (refine wpList_load_rowG rfl 26 _ rfl (w.heap.size + 1) rfl 26 (cellsRc a1) (0, 0) _ F1.out.two Tryd.underlying26 rfl infoRc ?_)
      refine (HF1.out w1).mono ?_
      rintro e w2 ⟨rfl, b1⟩
      have F2 := Lib.hid (F1.out.below b1)
      clear b1 F1
      go_wp2_with (fail)
      refine (HA.out w2 (HV.out.below F2.out.bel)).mono ?_
      rintro e wl ⟨rfl, bl⟩
      have FL := Lib.hid (F2.out.below bl)
      clear bl
      go_wp2_with (fail)
      go_ret
      exact ⟨rfl, FL.out.bel⟩
    | true =>
      have HL1 := Lib.hid (HS.out.some hg)
      rw [hg] at HF1
      clear hg
      go_enter Tryd.func8, Tryd.ntmps8
      go_upto_region 1 with (fail)
      generalize (w.alloc (.cells (cellsRc a0) 26)).alloc (.cells (cellsRc a1) 26) = W at *
      go_wp2_with (refine wpList_load_row rfl 26 _ rfl w.heap.size rfl 26 (cellsRc a0) (0, 0) _ F0.out.one Tryd.underlying26 rfl infoRc ?_)
      refine (HF0.out W).mono ?_
      rintro e w1 ⟨rfl, b1⟩
      have F1 := Lib.hid (F0.out.below b1)
      clear b1 F0
      go_wp2_with (refine wpList_load_rowG rfl 26 _ rfl (w.heap.size + 1) rfl 26 (cellsRc a1) (0, 0) _ F1.out.two Tryd.underlying26 rfl infoRc ?_)
      refine (HF1.out w1).mono ?_
      rintro e w2 ⟨rfl, b1⟩
      have F2 := Lib.hid (F1.out.below b1)
      clear b1 F1
      have P3 : Hid (AP w (w2.alloc (.cells #[.pointer (some ⟨w.heap.size, 0, none⟩), .pointer (some ⟨w.heap.size + 1, 0, none⟩)] 48)) w.heap.size (w.heap.size + 1) w2.heap.size a0 a1) := Lib.hid ⟨F2.out.below ((Below.refl _ _).alloc (Nat.le_refl _) _), Blk.new _ _ _⟩
      clear F2
      go_wp2_with (fail)
      generalize w2.alloc (.cells #[.pointer (some ⟨w.heap.size, 0, none⟩), .pointer (some ⟨w.heap.size + 1, 0, none⟩)] 48) = w3 at *
      generalize w2.heap.size = pb at *
      refine wp_loop_rounds 3 ?_
      rw [rounds_succ]
      have p0 : w3.cell? ⟨pb, 0, none⟩ = some (.pointer (some ⟨w.heap.size, 0, none⟩)) := P3.out.pp.cell 0
      go_upto_region 6 with (fail)
      clear p0
      have c0 : w3.cell? ⟨w.heap.size, 0, none⟩ = some (.int .i64 a0.kd) := P3.out.bx.one.cell 0
      have f0 : w3.frozen? ⟨w.heap.size, 0, none⟩ = false := P3.out.bx.one.frozen 0
      have c1 : w3.cell? ⟨w.heap.size, 1, none⟩ = some (.int .i64 a0.cd) := P3.out.bx.one.cell 1
      have f1 : w3.frozen? ⟨w.heap.size, 1, none⟩ = false := P3.out.bx.one.frozen 1
      have c2 : w3.cell? ⟨w.heap.size, 2, none⟩ = some (.int .i64 a0.ix) := P3.out.bx.one.cell 2
      have f2 : w3.frozen? ⟨w.heap.size, 2, none⟩ = false := P3.out.bx.one.frozen 2
      have c5 : w3.cell? ⟨w.heap.size, 5, none⟩ = some (.int .i64 a0.dl) := P3.out.bx.one.cell 5
      have f5 : w3.frozen? ⟨w.heap.size, 5, none⟩ = false := P3.out.bx.one.frozen 5
      go_upto_region 7 with (fail)
      clear c0 c1 c2 c5 f0 f1 f2 f5
      have P4 : Hid (AP w (tickW w3 (w.heap.size)) w.heap.size (w.heap.size + 1) pb (tickR a0) a1) := Lib.hid ⟨⟨tickW_blk P3.out.bx.one, tickW_far P3.out.bx.two (by omega), tickW_below P3.out.bx.bel (by omega)⟩, tickW_far P3.out.pp (Blk.ne_ P3.out.pp P3.out.bx.one (by decide))⟩
      have HTW : Hid (tickW w3 (w.heap.size) = (((w3.setCell ⟨w.heap.size, 0, none⟩ (.int .i64 7)).setCell ⟨w.heap.size, 1, none⟩ (.int .i64 0)).setCell ⟨w.heap.size, 2, none⟩ (.int .i64 (-1))).setCell ⟨w.heap.size, 5, none⟩ (.int .i64 (-1))) := Lib.hid rfl
      rw [HTW.out] at P4
      clear HTW P3
      generalize (((w3.setCell ⟨w.heap.size, 0, none⟩ (.int .i64 7)).setCell ⟨w.heap.size, 1, none⟩ (.int .i64 0)).setCell ⟨w.heap.size, 2, none⟩ (.int .i64 (-1))).setCell ⟨w.heap.size, 5, none⟩ (.int .i64 (-1)) = w4 at *
      obtain ⟨aa, h1⟩ : ∃ aa, a0.aa = aa := ⟨_, rfl⟩
      obtain ⟨an, h2⟩ : ∃ an, a0.an = an := ⟨_, rfl⟩
      obtain ⟨ac, h3⟩ : ∃ ac, a0.ac = ac := ⟨_, rfl⟩
      have HI0 : Hid (a0.aa = aa ∧ a0.an = an ∧ a0.ac = ac) := Lib.hid ⟨h1, h2, h3⟩
      have HX0 : Hid (LstR As.row 3 w (fun _ => False) aa la ∧ la.length = an) := Lib.hid ⟨by rw [← h1]; exact HR.out.asg, by rw [← h2]; exact HR.out.an⟩
      have hn0 : an ≤ 9223372036854775807 := by rw [← h2]; exact HR.out.lens.1
      clear h1 h2 h3
      have m6 : w4.cell? ⟨w.heap.size, 6, none⟩ = some (.slice aa an ac) := by rw [← HI0.out.1, ← HI0.out.2.1, ← HI0.out.2.2]; exact P4.out.bx.one.cell 6
      go_wp2_with (fail)
      clear m6
      go_loopw [41] (fun i wr => ∃ k : Nat, k ≤ an ∧ i = .int .i64 k ∧ Hid (∀ (j : Nat) (x : As), j < k → la[j]? = some x → Cls x) ∧ Hid (AP w wr w.heap.size (w.heap.size + 1) pb (tickR a0) a1)) (fun i _ => an - (intOf i).toNat)
      case atStart => exact ⟨0, by omega, rfl, Lib.hid (fun j x hj => by omega), P4⟩
      case round =>
        clear P4
        obtain ⟨k, hk, rfl, HC, PR⟩ := hrel
        by_cases hlt : k < an
        · obtain ⟨x, hx⟩ : ∃ x, la[k]? = some x := ⟨_, List.getElem?_eq_getElem (by rw [HX0.out.2]; exact hlt)⟩
          obtain ⟨b, off, rfl, _, hbl, hrg⟩ := HX0.out.1.at hx
          have RG := Lib.hid (rangeAt_same hrg (PR.out.bx.bel.block b hbl))
          have K1 : Hid (Blk (wr.alloc (.cells (cellsAs x) 32)) wr.heap.size 32 (cellsAs x)) := Lib.hid (Blk.new _ _ _)
          have P1 := Lib.hid (PR.out.alloc (.cells (cellsAs x) 32))
          have HXK := Lib.hid hx
          clear hrg hx hbl PR
          go_upto_region 10 with (first | (refine wpList_load_As rfl 32 _ rfl b (off + k * 3) rfl x _ RG.out Tryd.underlying32 rfl infoAs ?_) | (refine wpList_store_row rfl _ _ _ rfl wr.heap.size (cellsAs x) rfl rfl 32 _ (heap_alloc_new wr _) infoAs rfl (cellsAs_one _) ?_; rw [World.setRow_alloc_new]))
          clear RG
          generalize wr.alloc (.cells (cellsAs x) 32) = w8 at *
          generalize wr.heap.size = xb at *
          by_cases hc0 : x.cl = 0
          · have m1 : w8.cell? ⟨xb, 1, none⟩ = some (.int .i64 0) := by rw [← hc0]; exact K1.out.cell 1
            have HC2 : Hid (∀ (j : Nat) (x : As), j < k + 1 → la[j]? = some x → Cls x) := Lib.hid (fun j u hj hu => by
              rcases Nat.lt_or_ge j k with h | h
              · exact HC.out j u h hu
              · obtain rfl : j = k := by omega
                rw [HXK.out] at hu
                injection hu with hu
                rw [← hu]; exact .inl hc0)
            clear hc0 K1
            go_wp2_with (fail)
            go_roundw
            case rel => exact ⟨k + 1, by omega, by go_num, HC2, P1⟩
            case measure => simp [intOf]; omega
          · by_cases hc1 : x.cl = 1
            · have m1 : w8.cell? ⟨xb, 1, none⟩ = some (.int .i64 1) := by rw [← hc1]; exact K1.out.cell 1
              have HC2 : Hid (∀ (j : Nat) (x : As), j < k + 1 → la[j]? = some x → Cls x) := Lib.hid (fun j u hj hu => by
                rcases Nat.lt_or_ge j k with h | h
                · exact HC.out j u h hu
                · obtain rfl : j = k := by omega
                  rw [HXK.out] at hu
                  injection hu with hu
                  rw [← hu]; exact .inr hc1)
              clear hc0 hc1 K1
              go_wp2_with (fail)
              go_roundw
              case rel => exact ⟨k + 1, by omega, by go_num, HC2, P1⟩
              case measure => simp [intOf]; omega
            · have m1 : w8.cell? ⟨xb, 1, none⟩ = some (.int .i64 x.cl) := K1.out.cell 1
              have hb0 : (x.cl != 0) = true := by simpa using hc0
              have hb1 : (x.cl != 1) = true := by simpa using hc1
              clear hc0 hc1 K1
              go_wp2_with (fail)
              refine (HA.out w8 (HV.out.below P1.out.bx.bel)).mono ?_
              rintro e wl ⟨rfl, bl⟩
              have FL := Lib.hid (P1.out.bx.below bl)
              clear bl
              go_wp2_with (fail)
              go_ret
              exact ⟨rfl, FL.out.bel⟩
        · obtain rfl : k = an := by omega
          have HCL0 : Hid (∀ x ∈ la, Cls x) := Lib.hid (fun x hx => by
            obtain ⟨j, hj⟩ := List.mem_iff_getElem?.1 hx
            exact HC.out j x (by rw [← HX0.out.2]; exact (List.getElem?_eq_some_iff.1 hj).1) hj)
          clear hlt HC
          have hlt : ¬ k < k := by omega
          obtain ⟨we, rfl⟩ : ∃ wo : World, wo = wr := ⟨_, rfl⟩
          go_wp2_with (fail)
          clear hlt
          rw [rounds_succ]
          have p1 : we.cell? ⟨pb, 1, none⟩ = some (.pointer (some ⟨w.heap.size + 1, 0, none⟩)) := PR.out.pp.cell 1
          go_upto_region 6 with (fail)
          clear p1
          have c0 : we.cell? ⟨w.heap.size + 1, 0, none⟩ = some (.int .i64 a1.kd) := PR.out.bx.two.cell 0
          have f0 : we.frozen? ⟨w.heap.size + 1, 0, none⟩ = false := PR.out.bx.two.frozen 0
          have c1 : we.cell? ⟨w.heap.size + 1, 1, none⟩ = some (.int .i64 a1.cd) := PR.out.bx.two.cell 1
          have f1 : we.frozen? ⟨w.heap.size + 1, 1, none⟩ = false := PR.out.bx.two.frozen 1
          have c2 : we.cell? ⟨w.heap.size + 1, 2, none⟩ = some (.int .i64 a1.ix) := PR.out.bx.two.cell 2
          have f2 : we.frozen? ⟨w.heap.size + 1, 2, none⟩ = false := PR.out.bx.two.frozen 2
          have c5 : we.cell? ⟨w.heap.size + 1, 5, none⟩ = some (.int .i64 a1.dl) := PR.out.bx.two.cell 5
          have f5 : we.frozen? ⟨w.heap.size + 1, 5, none⟩ = false := PR.out.bx.two.frozen 5
          go_upto_region 7 with (fail)
          clear c0 c1 c2 c5 f0 f1 f2 f5
          have P5 : Hid (AP w (tickW we (w.heap.size + 1)) w.heap.size (w.heap.size + 1) pb (tickR a0) (tickR a1)) := Lib.hid ⟨⟨tickW_far PR.out.bx.one (by omega), tickW_blk PR.out.bx.two, tickW_below PR.out.bx.bel (by omega)⟩, tickW_far PR.out.pp (Blk.ne_ PR.out.pp PR.out.bx.two (by decide))⟩
          have HTW : Hid (tickW we (w.heap.size + 1) = (((we.setCell ⟨w.heap.size + 1, 0, none⟩ (.int .i64 7)).setCell ⟨w.heap.size + 1, 1, none⟩ (.int .i64 0)).setCell ⟨w.heap.size + 1, 2, none⟩ (.int .i64 (-1))).setCell ⟨w.heap.size + 1, 5, none⟩ (.int .i64 (-1))) := Lib.hid rfl
          rw [HTW.out] at P5
          clear HTW PR
          generalize (((we.setCell ⟨w.heap.size + 1, 0, none⟩ (.int .i64 7)).setCell ⟨w.heap.size + 1, 1, none⟩ (.int .i64 0)).setCell ⟨w.heap.size + 1, 2, none⟩ (.int .i64 (-1))).setCell ⟨w.heap.size + 1, 5, none⟩ (.int .i64 (-1)) = w5 at *
          obtain ⟨ba, h1⟩ : ∃ ba, a1.aa = ba := ⟨_, rfl⟩
          obtain ⟨bn, h2⟩ : ∃ bn, a1.an = bn := ⟨_, rfl⟩
          obtain ⟨bc, h3⟩ : ∃ bc, a1.ac = bc := ⟨_, rfl⟩
          have HI1 : Hid (a1.aa = ba ∧ a1.an = bn ∧ a1.ac = bc) := Lib.hid ⟨h1, h2, h3⟩
          have HX1 : Hid (LstR As.row 3 w (fun _ => False) ba lb ∧ lb.length = bn) := Lib.hid ⟨by rw [← h1]; exact HS.out.asg, by rw [← h2]; exact HS.out.an⟩
          have hn1 : bn ≤ 9223372036854775807 := by rw [← h2]; exact HS.out.lens.1
          clear h1 h2 h3
          have m6 : w5.cell? ⟨w.heap.size + 1, 6, none⟩ = some (.slice ba bn bc) := by rw [← HI1.out.1, ← HI1.out.2.1, ← HI1.out.2.2]; exact P5.out.bx.two.cell 6
          go_wp2_with (fail)
          clear m6
          go_loopw [41] (fun i wr => ∃ k : Nat, k ≤ bn ∧ i = .int .i64 k ∧ Hid (∀ (j : Nat) (x : As), j < k → lb[j]? = some x → Cls x) ∧ Hid (AP w wr w.heap.size (w.heap.size + 1) pb (tickR a0) (tickR a1))) (fun i _ => bn - (intOf i).toNat)
          case atStart => exact ⟨0, by omega, rfl, Lib.hid (fun j x hj => by omega), P5⟩
          case round =>
            clear P5
            obtain ⟨k, hk, rfl, HC, PR⟩ := hrel
            by_cases hlt : k < bn
            · obtain ⟨x, hx⟩ : ∃ x, lb[k]? = some x := ⟨_, List.getElem?_eq_getElem (by rw [HX1.out.2]; exact hlt)⟩
              obtain ⟨b, off, rfl, _, hbl, hrg⟩ := HX1.out.1.at hx
              have RG := Lib.hid (rangeAt_same hrg (PR.out.bx.bel.block b hbl))
              have K1 : Hid (Blk (wr.alloc (.cells (cellsAs x) 32)) wr.heap.size 32 (cellsAs x)) := Lib.hid (Blk.new _ _ _)
              have P1 := Lib.hid (PR.out.alloc (.cells (cellsAs x) 32))
              have HXK := Lib.hid hx
              clear hrg hx hbl PR
              go_upto_region 10 with (first | (refine wpList_load_As rfl 32 _ rfl b (off + k * 3) rfl x _ RG.out Tryd.underlying32 rfl infoAs ?_) | (refine wpList_store_row rfl _ _ _ rfl wr.heap.size (cellsAs x) rfl rfl 32 _ (heap_alloc_new wr _) infoAs rfl (cellsAs_one _) ?_; rw [World.setRow_alloc_new]))
              clear RG
              generalize wr.alloc (.cells (cellsAs x) 32) = w8 at *
              generalize wr.heap.size = xb at *
              by_cases hc0 : x.cl = 0
              · have m1 : w8.cell? ⟨xb, 1, none⟩ = some (.int .i64 0) := by rw [← hc0]; exact K1.out.cell 1
                have HC2 : Hid (∀ (j : Nat) (x : As), j < k + 1 → lb[j]? = some x → Cls x) := Lib.hid (fun j u hj hu => by
                  rcases Nat.lt_or_ge j k with h | h
                  · exact HC.out j u h hu
                  · obtain rfl : j = k := by omega
                    rw [HXK.out] at hu
                    injection hu with hu
                    rw [← hu]; exact .inl hc0)
                clear hc0 K1
                go_wp2_with (fail)
                go_roundw
                case rel => exact ⟨k + 1, by omega, by go_num, HC2, P1⟩
                case measure => simp [intOf]; omega
              · by_cases hc1 : x.cl = 1
                · have m1 : w8.cell? ⟨xb, 1, none⟩ = some (.int .i64 1) := by rw [← hc1]; exact K1.out.cell 1
                  have HC2 : Hid (∀ (j : Nat) (x : As), j < k + 1 → lb[j]? = some x → Cls x) := Lib.hid (fun j u hj hu => by
                    rcases Nat.lt_or_ge j k with h | h
                    · exact HC.out j u h hu
                    · obtain rfl : j = k := by omega
                      rw [HXK.out] at hu
                      injection hu with hu
                      rw [← hu]; exact .inr hc1)
                  clear hc0 hc1 K1
                  go_wp2_with (fail)
                  go_roundw
                  case rel => exact ⟨k + 1, by omega, by go_num, HC2, P1⟩
                  case measure => simp [intOf]; omega
                · have m1 : w8.cell? ⟨xb, 1, none⟩ = some (.int .i64 x.cl) := K1.out.cell 1
                  have hb0 : (x.cl != 0) = true := by simpa using hc0
                  have hb1 : (x.cl != 1) = true := by simpa using hc1
                  clear hc0 hc1 K1
                  go_wp2_with (fail)
                  refine (HA.out w8 (HV.out.below P1.out.bx.bel)).mono ?_
                  rintro e wl ⟨rfl, bl⟩
                  have FL := Lib.hid (P1.out.bx.below bl)
                  clear bl
                  go_wp2_with (fail)
                  go_ret
                  exact ⟨rfl, FL.out.bel⟩
            · obtain rfl : k = bn := by omega
              have HCL1 : Hid (∀ x ∈ lb, Cls x) := Lib.hid (fun x hx => by
                obtain ⟨j, hj⟩ := List.mem_iff_getElem?.1 hx
                exact HC.out j x (by rw [← HX1.out.2]; exact (List.getElem?_eq_some_iff.1 hj).1) hj)
              clear hlt HC
              have hlt : ¬ k < k := by omega
              obtain ⟨wf, rfl⟩ : ∃ wo : World, wo = wr := ⟨_, rfl⟩
              go_wp2_with (fail)
              clear hlt
              rw [rounds_succ]
              go_wp2_with (fail)
              have HAP : Hid (decide (lineL (tickR a0) la lp = lineL (tickR a1) lb lq) = B) := Lib.hid (HE.out HCL0.out HCL1.out)
              try simp only [Act.put]
              refine wp_region_class (fun w' => RF2 w w' w.heap.size (w.heap.size + 1) (tickR a0) (tickR a1)) (by kernel_rfl) (by kernel_rfl) PR.out.bx.drew ?_
              refine q_call (.bool true) #[] rfl (by kernel_rfl) Tryd.call10 (fun w' h => h.call (HA.out w' (HV.out.below h.bel))) ?_
              simp only [Act.put, List.setIfInBounds_toArray, List.set_cons_zero, List.set_cons_succ]
              iterate 1 (go_big_quiet_step ((intros; rfl)))
              refine q_load 26 _ w.heap.size 26 (cellsRc (tickR a0)) _ rfl rfl rfl (fun w' h => h.one) Tryd.underlying26 rfl infoRc ?_
              simp only [Act.put, List.setIfInBounds_toArray, List.set_cons_zero, List.set_cons_succ]
              refine q_call (.string (bs (lineL (tickR a0) la lp))) #[.agg (cellsRc (tickR a0))] rfl (by kernel_rfl) Tryd.call18 (fun w' h => h.call (format_any (tickR a0) la lp w' (HR.out.tick.below h.bel) (HV.out.below h.bel) HL0.out.1 HL0.out.2)) ?_
              simp only [Act.put, List.setIfInBounds_toArray, List.set_cons_zero, List.set_cons_succ]
              refine q_load 26 _ (w.heap.size + 1) 26 (cellsRc (tickR a1)) _ rfl rfl rfl (fun w' h => h.two) Tryd.underlying26 rfl infoRc ?_
              simp only [Act.put, List.setIfInBounds_toArray, List.set_cons_zero, List.set_cons_succ]
              refine q_call (.string (bs (lineL (tickR a1) lb lq))) #[.agg (cellsRc (tickR a1))] rfl (by kernel_rfl) Tryd.call18 (fun w' h => h.call (format_any (tickR a1) lb lq w' (HS.out.tick.below h.bel) (HV.out.below h.bel) HL1.out.1 HL1.out.2)) ?_
              simp only [Act.put, List.setIfInBounds_toArray, List.set_cons_zero, List.set_cons_succ]
              refine q_eqS (lineL (tickR a0) la lp) (lineL (tickR a1) lb lq) B HAP.out rfl rfl rfl ?_
              simp only [Act.put, List.setIfInBounds_toArray, List.set_cons_zero, List.set_cons_succ]
              refine q_load 26 _ w.heap.size 26 (cellsRc (tickR a0)) _ rfl rfl rfl (fun w' h => h.one) Tryd.underlying26 rfl infoRc ?_
              simp only [Act.put, List.setIfInBounds_toArray, List.set_cons_zero, List.set_cons_succ]
              refine q_load 26 _ (w.heap.size + 1) 26 (cellsRc (tickR a1)) _ rfl rfl rfl (fun w' h => h.two) Tryd.underlying26 rfl infoRc ?_
              simp only [Act.put, List.setIfInBounds_toArray, List.set_cons_zero, List.set_cons_succ]
              refine q_call (.bool B) #[.agg (cellsRc (tickR a0)), .agg (cellsRc (tickR a1))] rfl (by kernel_rfl) Tryd.call12 (fun w' h => h.call (HQ.out w' h.bel)) ?_
              simp only [Act.put, List.setIfInBounds_toArray, List.set_cons_zero, List.set_cons_succ]
              refine q_eqB 4 B B true (by simp) Tryd.underlying4 rfl rfl rfl ?_
              simp only [Act.put, List.setIfInBounds_toArray, List.set_cons_zero, List.set_cons_succ]
              iterate 2 (go_big_quiet_step ((intros; rfl)))
              refine wpQuiet_nil ?_
              intro w9 f9
              go_wp2_with (fail)
              go_ret
              exact ⟨rfl, f9.bel⟩
end Go.Proofs.YtjbbcnepeffiaaaDoor
