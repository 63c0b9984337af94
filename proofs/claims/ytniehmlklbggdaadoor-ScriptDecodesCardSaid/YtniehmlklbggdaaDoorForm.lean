/- Format, the program's. -/
import Derived.Test.YtniehmlklbggdaaDoorFields
import Derived.Test.YtniehmlklbggdaaDoorTxt
namespace Go.Proofs.YtniehmlklbggdaaDoor
open Go Go.RowKit
set_option linter.unusedVariables false
set_option linter.unusedSimpArgs false
set_option maxRecDepth 100000

/-- What stands behind the name when p places are written. -/
def opP (o : Oq) : Nat → List UInt8
  | 0 => []
  | p + 1 => opP o p ++ if usesB o.kd (plO p) = true then 32 :: decI ((plO p).get o) else []
theorem opP_all {o : Oq} {ds : List Od} (h : ods o.kd = some ds) : opP o 3 = opdT o ds := by
  rcases ods_cases o.kd with ⟨_, e⟩ | ⟨_, e⟩ | ⟨_, e⟩ | ⟨_, e⟩ | ⟨_, e⟩ | ⟨_, e⟩ | ⟨_, e⟩ | ⟨_, e⟩
  all_goals
    rw [h] at e
    first
      | cases e; done
      | (injection e with e; subst e; simp [opP, usesB, h, opdT, plO])
theorem get_nat {o : Oq} (hf : FitsOq o) (d : Od) : ∃ u : Nat, d.get o = (u : Int) ∧ u < 18446744073709551616 := by
  have ha := u64_wf hf.2.2.2
  have hw : ∀ x : Int, 0 ≤ IntKind.u64.wrap x ∧ IntKind.u64.wrap x < 18446744073709551616 := fun x => by simp [IntKind.wrap, IntKind.bits, IntKind.signed]; omega
  refine ⟨(d.get o).toNat, ?_⟩
  cases d
  · have := hw o.ix; simp only [Od.get]; omega
  · have := hw o.tg; simp only [Od.get]; omega
  · simp only [Od.get]; omega
theorem index_F (o : Oq) (p : Nat) (hp : p < 3) (w : World) : (Instr.index 56 (.agg (celF (IntKind.u64.wrap o.ix) (IntKind.u64.wrap o.tg) o.am)) (.int .i64 (p : Int))).run Tryd.prog w = .ok (.int .u64 ((plO p).get o)) w := by
  obtain rfl | rfl | rfl : p = 0 ∨ p = 1 ∨ p = 2 := by omega
  all_goals kernel_rfl
theorem bs_append (a b : List UInt8) : bs a ++ bs b = bs (a ++ b) := bytes_append a b
theorem dec_len {u : Nat} (h : u < 18446744073709551616) : (bs (decI (u : Int))).size ≤ 20 := by
  have := dec_short u h
  simpa [bs, decI, ByteArray.size] using this
theorem nm_len : ∀ k, k < 7 → (nm k).size ≤ 11 := by decide
set_option maxHeartbeats 1600000 in
theorem format_any (o : Oq) (hf : FitsOq o) (w : World) (hv : Vars w) : Calls Tryd.prog 16 #[.agg (cellsOq o)] w fun e w' => e = .returned (.string (bs (lineL o))) ∧ Below w.heap.size w w' := by
  have K0 : Hid (Blk (w.alloc (.cells (cellsOq o) 35)) w.heap.size 35 (cellsOq o)) := Lib.hid (Blk.new w _ _)
  have B0 : Hid (Below w.heap.size w (w.alloc (.cells (cellsOq o) 35))) := Lib.hid ((Below.refl _ _).alloc (Nat.le_refl _) _)
  have HVA := Lib.hid (fun w => valid_any o hf w)
  have HV := Lib.hid hv
  clear hv
  rcases hval : validB o with _ | _
  · rw [hval] at HVA
    have HL : Hid (bs (lineL o) = ⟨#[109, 97, 108, 102, 111, 114, 109, 101, 100]⟩) := Lib.hid (by rw [line_no hval]; rfl)
    clear hf hval
    go_enter Tryd.func16, Tryd.ntmps16
    go_upto_region 1 with (fail)
    generalize w.alloc (.cells (cellsOq o) 35) = W at *
    go_wp2_with (refine wpList_load_row rfl 35 _ rfl w.heap.size rfl 35 (cellsOq o) (0, 0) _ K0.out Tryd.underlying35 rfl infoOq ?_)
    refine (HVA.out W).mono ?_
    rintro e w1 ⟨rfl, b1⟩
    have B1 := Lib.hid (B0.out.trans (b1.mono B0.out.size))
    clear b1
    go_wp2_with (fail)
    go_ret
    exact ⟨by rw [HL.out]; rfl, B1.out⟩
  · rw [hval] at HVA
    obtain ⟨ds, ho, hs⟩ := shape_of hval hf
    obtain ⟨k, hk, hkd⟩ := shape_k hs
    have HL : Hid (bs (lineL o) = nm k ++ bs (opP o 3)) := Lib.hid (by rw [line_yes hval ho, opP_all ho, ← bs_append, show (o.kd - 1).toNat = k by omega, bs_nm])
    have HG := Lib.hid (fun d => get_nat hf d)
    have HNM := Lib.hid (fun w h => name_yes k hk w h)
    rw [← hkd] at HNM
    have HI := Lib.hid (fun p hp w => index_F o p hp w)
    have HSP := Lib.hid (fun w => fsplit_any o w)
    have HIO := Lib.hid (fun p hp w => isop_any o.kd p hp hf.1 w)
    have HNL := Lib.hid (nm_len k hk)
    generalize celF (IntKind.u64.wrap o.ix) (IntKind.u64.wrap o.tg) o.am = cs at *
    generalize nm k = N at *
    clear hf hval ho hs hk hkd
    go_enter Tryd.func16, Tryd.ntmps16
    go_upto_region 1 with (fail)
    generalize w.alloc (.cells (cellsOq o) 35) = W at *
    go_wp2_with (refine wpList_load_row rfl 35 _ rfl w.heap.size rfl 35 (cellsOq o) (0, 0) _ K0.out Tryd.underlying35 rfl infoOq ?_)
    refine (HVA.out W).mono ?_
    rintro e w1 ⟨rfl, b1⟩
    have B1 := Lib.hid (B0.out.trans (b1.mono B0.out.size))
    have K1 := Lib.hid (K0.out.below b1 K0.out.lt)
    clear b1 HVA B0 K0
    have hc0 : w1.cell? ⟨w.heap.size, 0, none⟩ = some (.int .i64 o.kd) := K1.out.cell 0
    go_wp2_with (fail)
    refine (HNM.out w1 (HV.out.below B1.out).names).mono ?_
    rintro e w2 ⟨rfl, rfl⟩
    clear HNM
    go_wp2_with (refine wpList_load_row rfl 35 _ rfl w.heap.size rfl 35 (cellsOq o) (0, 0) _ K1.out Tryd.underlying35 rfl infoOq ?_)
    refine (HSP.out w1).mono ?_
    rintro e w2 ⟨rfl, b2⟩
    have B2 := Lib.hid (B1.out.trans (b2.mono B1.out.size))
    have K2 := Lib.hid (K1.out.below b2 K1.out.lt)
    clear b2 HSP B1 K1 hc0
    go_wp2_with (fail)
    go_loopw [3, 14] (fun l i wr => ∃ (p : Nat) (S : ByteArray), p ≤ 3 ∧ S.size ≤ 11 + p * 21 ∧ i = .int .i64 p ∧ l = .string S ∧ Hid (S = N ++ bs (opP o p)) ∧ Hid (Blk wr w.heap.size 35 (cellsOq o)) ∧ Hid (Below w.heap.size w wr)) (fun _ i _ => 3 - (intOf i).toNat)
    case atStart => exact ⟨0, N, by omega, by have := HNL.out; omega, rfl, rfl, Lib.hid (by rw [opP]; exact ByteArray.append_empty.symm), K2, B2⟩
    case round =>
      clear B2 K2
      obtain ⟨p, S, hp, hS, rfl, rfl, HS, K3, B3⟩ := hrel
      by_cases hlt : p < 3
      · have hidx := HI.out p hlt
        have hc0 : wr.cell? ⟨w.heap.size, 0, none⟩ = some (.int .i64 o.kd) := K3.out.cell 0
        have hp3 : (p : Int) < 3 := by omega
        have HLT := Lib.hid hlt
        obtain ⟨u, hu, hu64⟩ := HG.out (plO p)
        rw [hu] at hidx
        have HU := Lib.hid (And.intro hu hu64)
        clear hlt hu hu64
        go_wp2_with (fail)
        refine (HIO.out p HLT.out wr).mono ?_
        rintro e w4 ⟨rfl, b4⟩
        have B4 := Lib.hid (B3.out.trans (b4.mono B3.out.size))
        have K4 := Lib.hid (K3.out.below b4 K3.out.lt)
        clear b4 B3 K3 hc0 hidx
        rcases huse : usesB o.kd (plO p) with _ | _
        · have HS2 : Hid (S = N ++ bs (opP o (p + 1))) := Lib.hid (by rw [HS.out, opP, if_neg (by rw [huse]; decide), List.append_nil])
          clear huse
          go_wp2_with (fail)
          go_roundw
          case rel => exact ⟨p + 1, S, by omega, by omega, by go_num, rfl, HS2, K4, B4⟩
          case measure => simp [intOf]; omega
        · have HS2 : Hid (S ++ (⟨#[32]⟩ ++ bs (decI (u : Int))) = N ++ bs (opP o (p + 1))) := Lib.hid (by
            rw [HS.out, opP, if_pos huse, HU.out.1, ← bs_append, ByteArray.append_assoc]
            rfl)
          have HF := Lib.hid (gformat_any u HU.out.2 w4 (HV.out.below B4.out).pow)
          have hT := dec_len HU.out.2
          have HT : Hid (bs (decI (u : Int)) = ⟨(Lib.decDigits u).toArray⟩) := Lib.hid rfl
          rw [← HT.out] at HF
          generalize bs (decI (u : Int)) = T at *
          clear huse HT
          go_wp2_with (fail)
          refine HF.out.mono ?_
          rintro e w5 ⟨rfl, b5⟩
          have B5 := Lib.hid (B4.out.trans (b5.mono B4.out.size))
          have K5 := Lib.hid (K4.out.below b5 K4.out.lt)
          clear b5 B4 K4
          go_wp2_with (fail)
          go_roundw
          case rel => exact ⟨p + 1, _, by omega, by have h32 : (⟨#[32]⟩ : ByteArray).size = 1 := rfl; rw [ByteArray.size_append, ByteArray.size_append]; omega, by go_num, rfl, HS2, K5, B5⟩
          case measure => simp [intOf]; omega
      · obtain rfl : p = 3 := by omega
        clear hlt
        go_wp2_with (fail)
        go_ret
        exact ⟨by rw [HL.out, ← HS.out]; rfl, B3.out⟩
end Go.Proofs.YtniehmlklbggdaaDoor
