/- The statement ScriptParses, walked: it returns true for every string. -/
import Derived.Test.YtniehmlklbggdaaDoorLive
import Derived.Test.YtniehmlklbggdaaDoorRPars
namespace Go.Proofs.YtniehmlklbggdaaDoor
open Go Go.RowKit
set_option linter.unusedVariables false
set_option linter.unusedSimpArgs false
set_option maxRecDepth 100000

theorem shape_fits {o : Oq} {ds : List Od} (h : Shape o ds) : FitsOq o := by
  have W : ∀ x : Int, 0 ≤ x ∧ x ≤ 65535 → (Lit.int .i64 x).wf = true := fun x hx => WalkArith.wf_i64 (by omega)
  have U : ∀ x : Int, 0 ≤ x ∧ x ≤ 18446744073709551615 → (Lit.int .u64 x).wf = true := fun x hx => by simp [Lit.wf, IntKind.min, IntKind.max, IntKind.signed, IntKind.bits]; omega
  have Z : (Lit.int .i64 0).wf = true := by decide
  have ZU : (Lit.int .u64 0).wf = true := by decide
  cases h with
  | am k a h h0 => subst h; exact ⟨W 1 (by omega), Z, Z, U a h0⟩
  | ix k i h h0 => exact ⟨W k (by omega), W i h0, Z, ZU⟩
  | it k i t h h0 h1 => exact ⟨W k (by omega), W i h0, W t h1, ZU⟩
  | ia k i a h h0 h1 => exact ⟨W k (by omega), W i h0, Z, U a h1⟩
  | no k h => exact ⟨W k (by omega), Z, Z, ZU⟩
set_option maxHeartbeats 1600000 in
theorem walk_ScriptParses (a0 : ByteArray) (w : World) (w0 : a0.size ≤ maxLen) (hL : laidMetH Tryd.prog Rows.scriptDecodesRow.laid w) :
    Calls Tryd.prog 6 #[.string a0] w fun e w' => e = .returned (.bool true) ∧ Below w.heap.size w w' := by
  have HV := Lib.hid (vars_of_laid hL)
  have HA := Lib.hid (fun w h => alive_any w h)
  clear hL w0
  by_cases hbig : (200 : Int) < a0.size
  · go_enter Tryd.func6, Tryd.ntmps6
    go_wp2_with (fail)
    refine (HA.out w HV.out).mono ?_
    rintro e w3 ⟨rfl, b3⟩
    have B3 := Lib.hid b3
    clear b3
    go_wp2
    go_ret
    exact ⟨rfl, B3.out⟩
  · have HP := Lib.hid (fun w h => parse_any a0 w (by omega) h)
    have HRP := Lib.hid (fun w => refparse_line a0 w (by omega))
    rcases hpl : parL a0.data.toList with _ | o
    · have hpd : parD a0.data.toList = oqZ := by rw [parD, hpl]; rfl
      rw [hpl, hpd] at HP HRP
      clear hpl hpd
      obtain ⟨o, ho⟩ : ∃ o, oqZ = o := ⟨_, rfl⟩
      rw [ho] at HP HRP
      clear ho
      obtain ⟨ok, hok⟩ : ∃ ok, (none : Option Oq).isSome = ok := ⟨_, rfl⟩
      have hok2 : ok = false := hok.symm
      rw [hok, hok2] at HP HRP
      clear hok hok2
      go_enter Tryd.func6, Tryd.ntmps6
      go_wp2_with (fail)
      refine (HP.out w HV.out).mono ?_
      rintro e w1 ⟨rfl, b1⟩
      have ba : Below w1.heap.size w1 (w1.alloc (.cells (cellsOq o) 35)) := (Below.refl _ _).alloc (Nat.le_refl _) _
      have B1 := Lib.hid (b1.trans (ba.mono b1.size))
      have P1 : Hid (Blk (w1.alloc (.cells (cellsOq o) 35)) w1.heap.size 35 (cellsOq o)) := Lib.hid (Blk.new w1 _ _)
      clear b1 ba
      go_upto_region 4 with (refine wpList_store_row rfl _ _ _ rfl w1.heap.size (cellsOq o) rfl rfl 35 _ (heap_alloc_new w1 _) infoOq rfl (cellsOq_one _) ?_; rw [World.setRow_alloc_new])
      generalize w1.alloc (.cells (cellsOq o) 35) = w2 at *
      generalize w1.heap.size = g at *
      go_wp2_with (fail)
      refine (HRP.out w2).mono ?_
      rintro e w3 ⟨rfl, b3⟩
      have bb : Below w3.heap.size w3 (w3.alloc (.cells (cellsOq o) 35)) := (Below.refl _ _).alloc (Nat.le_refl _) _
      have B3 := Lib.hid ((B1.out.trans (b3.mono B1.out.size)).trans (bb.mono (Nat.le_trans B1.out.size b3.size)))
      have P3 := Lib.hid ((P1.out.below b3 P1.out.lt).below bb (Nat.lt_of_lt_of_le P1.out.lt b3.size))
      have R3 : Hid (Blk (w3.alloc (.cells (cellsOq o) 35)) w3.heap.size 35 (cellsOq o)) := Lib.hid (Blk.new w3 _ _)
      clear b3 bb B1 P1
      go_upto_region 5 with (refine wpList_store_row rfl _ _ _ rfl w3.heap.size (cellsOq o) rfl rfl 35 _ (heap_alloc_new w3 _) infoOq rfl (cellsOq_one _) ?_; rw [World.setRow_alloc_new])
      generalize w3.alloc (.cells (cellsOq o) 35) = w4 at *
      generalize w3.heap.size = h at *
      go_wp2_with (fail)
      refine (HA.out w4 (HV.out.below B3.out)).mono ?_
      rintro e w5 ⟨rfl, b5⟩
      have B5 := Lib.hid (B3.out.trans (b5.mono B3.out.size))
      have P5 := Lib.hid (P3.out.below b5 P3.out.lt)
      have R5 := Lib.hid (R3.out.below b5 R3.out.lt)
      clear b5 B3 P3 R3
      go_wp2_with (first | (refine wpList_load_rowG rfl 35 _ rfl g rfl 35 (cellsOq o) (0, 0) _ P5.out Tryd.underlying35 rfl infoOq ?_) | (refine wpList_load_rowG rfl 35 _ rfl h rfl 35 (cellsOq o) (0, 0) _ R5.out Tryd.underlying35 rfl infoOq ?_) | (refine wpList_valG (.bool true) rfl (exec_eqOq (p := o) (q := o) rfl rfl (by simp)) ?_))
      go_ret
      exact ⟨rfl, B5.out⟩
    · have hpd : parD a0.data.toList = o := by rw [parD, hpl]; rfl
      obtain ⟨⟨ds, hs⟩, hline⟩ := par_back hpl
      have HFM : Hid (∀ w, Vars w → Calls Tryd.prog 16 #[.agg (cellsOq o)] w fun e w' => e = .returned (.string a0) ∧ Below w.heap.size w w') := Lib.hid fun w h => by
        have := format_any o (shape_fits hs) w h
        rw [hline, bs_self] at this
        exact this
      rw [hpl, hpd] at HP HRP
      clear hpl hpd hs hline
      obtain ⟨ok, hok⟩ : ∃ ok, (some o).isSome = ok := ⟨_, rfl⟩
      have hok2 : ok = true := hok.symm
      rw [hok, hok2] at HP HRP
      have heq := str_eq a0
      clear hok hok2
      go_enter Tryd.func6, Tryd.ntmps6
      go_wp2_with (fail)
      refine (HP.out w HV.out).mono ?_
      rintro e w1 ⟨rfl, b1⟩
      have ba : Below w1.heap.size w1 (w1.alloc (.cells (cellsOq o) 35)) := (Below.refl _ _).alloc (Nat.le_refl _) _
      have B1 := Lib.hid (b1.trans (ba.mono b1.size))
      have P1 : Hid (Blk (w1.alloc (.cells (cellsOq o) 35)) w1.heap.size 35 (cellsOq o)) := Lib.hid (Blk.new w1 _ _)
      clear b1 ba
      go_upto_region 4 with (refine wpList_store_row rfl _ _ _ rfl w1.heap.size (cellsOq o) rfl rfl 35 _ (heap_alloc_new w1 _) infoOq rfl (cellsOq_one _) ?_; rw [World.setRow_alloc_new])
      generalize w1.alloc (.cells (cellsOq o) 35) = w2 at *
      generalize w1.heap.size = g at *
      go_wp2_with (fail)
      refine (HRP.out w2).mono ?_
      rintro e w3 ⟨rfl, b3⟩
      have bb : Below w3.heap.size w3 (w3.alloc (.cells (cellsOq o) 35)) := (Below.refl _ _).alloc (Nat.le_refl _) _
      have B3 := Lib.hid ((B1.out.trans (b3.mono B1.out.size)).trans (bb.mono (Nat.le_trans B1.out.size b3.size)))
      have P3 := Lib.hid ((P1.out.below b3 P1.out.lt).below bb (Nat.lt_of_lt_of_le P1.out.lt b3.size))
      have R3 : Hid (Blk (w3.alloc (.cells (cellsOq o) 35)) w3.heap.size 35 (cellsOq o)) := Lib.hid (Blk.new w3 _ _)
      clear b3 bb B1 P1
      go_upto_region 5 with (refine wpList_store_row rfl _ _ _ rfl w3.heap.size (cellsOq o) rfl rfl 35 _ (heap_alloc_new w3 _) infoOq rfl (cellsOq_one _) ?_; rw [World.setRow_alloc_new])
      generalize w3.alloc (.cells (cellsOq o) 35) = w4 at *
      generalize w3.heap.size = h at *
      go_wp2_with (fail)
      refine (HA.out w4 (HV.out.below B3.out)).mono ?_
      rintro e w5 ⟨rfl, b5⟩
      have B5 := Lib.hid (B3.out.trans (b5.mono B3.out.size))
      have P5 := Lib.hid (P3.out.below b5 P3.out.lt)
      have R5 := Lib.hid (R3.out.below b5 R3.out.lt)
      clear b5 B3 P3 R3
      go_wp2_with (first | (refine wpList_load_rowG rfl 35 _ rfl g rfl 35 (cellsOq o) (0, 0) _ P5.out Tryd.underlying35 rfl infoOq ?_) | (refine wpList_load_rowG rfl 35 _ rfl h rfl 35 (cellsOq o) (0, 0) _ R5.out Tryd.underlying35 rfl infoOq ?_) | (refine wpList_valG (.bool true) rfl (exec_eqOq (p := o) (q := o) rfl rfl (by simp)) ?_))
      refine (HFM.out w5 (HV.out.below B5.out)).mono ?_
      rintro e w6 ⟨rfl, b6⟩
      have B6 := Lib.hid (B5.out.trans (b6.mono B5.out.size))
      clear b6
      go_wp2_with (fail)
      go_ret
      exact ⟨rfl, B6.out⟩
end Go.Proofs.YtniehmlklbggdaaDoor
