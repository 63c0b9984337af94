/- Format, the reference's. -/
import Derived.Test.YtniehmlklbggdaaDoorForm
import Derived.Test.YtniehmlklbggdaaDoorRefs
namespace Go.Proofs.YtniehmlklbggdaaDoor
open Go Go.RowKit
set_option linter.unusedVariables false
set_option linter.unusedSimpArgs false
set_option maxRecDepth 100000

theorem opdT_snoc {o : Oq} {ds : List Od} {j : Nat} {d : Od} (h : ds[j]? = some d) : opdT o (ds.take (j + 1)) = opdT o (ds.take j) ++ 32 :: decI (d.get o) := by
  unfold opdT
  rw [List.take_add_one, h, List.flatMap_append]
  simp
theorem lt_pow20 {u : Nat} (h : u < 18446744073709551616) : u < 10 ^ 20 := by
  have : (10 : Nat) ^ 20 = 100000000000000000000 := by decide
  omega
set_option maxHeartbeats 3200000 in
theorem refformat_line (o : Oq) (hf : FitsOq o) (w : World) : Calls Tryd.prog 18 #[.agg (cellsOq o)] w fun e w' => e = .returned (.string (bs (lineL o))) ∧ Below w.heap.size w w' := by
  have K0 : Hid (Blk (w.alloc (.cells (cellsOq o) 35)) w.heap.size 35 (cellsOq o)) := Lib.hid (Blk.new w _ _)
  have B0 : Hid (Below w.heap.size w (w.alloc (.cells (cellsOq o) 35))) := Lib.hid ((Below.refl _ _).alloc (Nat.le_refl _) _)
  have HVA := Lib.hid (fun w => refvalid_any o w)
  rcases hval : validB o with _ | _
  · rw [hval] at HVA
    have HL : Hid (bs (lineL o) = ⟨#[109, 97, 108, 102, 111, 114, 109, 101, 100]⟩) := Lib.hid (by rw [line_no hval]; rfl)
    clear hf hval
    go_enter Tryd.func18, Tryd.ntmps18
    go_upto_region 1 with (fail)
    generalize w.alloc (.cells (cellsOq o) 35) = W at *
    go_wp2_with (refine wpList_load_row rfl 35 _ rfl w.heap.size rfl 35 (cellsOq o) (0, 0) _ K0.out Tryd.underlying35 rfl infoOq ?_)
    refine (HVA.out W).mono ?_
    rintro e w1 ⟨rfl, b1⟩
    have B1 := Lib.hid (B0.out.trans (b1.mono B0.out.size))
    clear b1
    go_wp2_with (fail)
    go_ret
    exact ⟨by rw [HL.out]; rfl, B1.out⟩
  · rw [hval] at HVA
    obtain ⟨ds, ho, hs⟩ := shape_of hval hf
    obtain ⟨k, hk, hkd⟩ := shape_k hs
    have HL : Hid (bs (lineL o) = nm k ++ bs (opdT o ds)) := Lib.hid (by rw [line_yes hval ho, ← bs_append, show (o.kd - 1).toNat = k by omega, bs_nm])
    have HG := Lib.hid (fun d => get_nat hf d)
    have HOP := Lib.hid (fun w => refops_yes o.kd ds ho w)
    have HI : Hid (∀ (j : Nat) (d : Od), ds[j]? = some d → ∀ w : World, (Instr.index 9 (.string (strL ds)) (.int .i64 (j : Int))).run Tryd.prog w = .ok (.int .u8 (d.ch.toNat : Int)) w) := Lib.hid fun j d hd w => strL_at hd w
    obtain ⟨n, hn⟩ : ∃ n, ds.length = n := ⟨_, rfl⟩
    have HN := Lib.hid hn
    have hn2 : n ≤ 2 := by rw [← hn]; exact (ods_some ho).2.2.2
    have hsz : (strL ds).size = n := by rw [strL_size, hn]
    have HNL := Lib.hid (nm_len k hk)
    have HNC := Lib.hid (nmC_at k hk)
    have hsub : IntKind.i64.wrap (o.kd - 1) = (k : Int) := by rw [hkd]; simp [IntKind.wrap, IntKind.bits, IntKind.signed]; omega
    have HSUB := Lib.hid hsub
    generalize nm k = N at *
    generalize strL ds = SO at *
    have HK7 := Lib.hid hk
    clear hf hval ho hs hk hkd hn hsub
    go_enter Tryd.func18, Tryd.ntmps18
    go_upto_region 1 with (fail)
    generalize w.alloc (.cells (cellsOq o) 35) = W at *
    go_wp2_with (refine wpList_load_row rfl 35 _ rfl w.heap.size rfl 35 (cellsOq o) (0, 0) _ K0.out Tryd.underlying35 rfl infoOq ?_)
    refine (HVA.out W).mono ?_
    rintro e w1 ⟨rfl, b1⟩
    have B1 := Lib.hid (B0.out.trans (b1.mono B0.out.size))
    have K1 := Lib.hid (K0.out.below b1 K0.out.lt)
    clear b1 HVA B0 K0
    go_upto_region 3 with (fail)
    have hsub := HSUB.out
    have hk0 : (0 : Int) ≤ (k : Int) := by omega
    have hk7 : (k : Int) < 7 := by have := HK7.out; omega
    refine wp_region_first (fun w' => Blk w' w.heap.size 35 (cellsOq o)) 6 3 [1, 2, 3] (by kernel_rfl) (by kernel_rfl) K1.out ?_
    simp only [List.filterMap_cons, List.filterMap_nil, List.getElem?_toArray, List.getElem?_cons_zero, List.getElem?_cons_succ]
    show wpQuiet _ _ _ _ [_, _, _] _
    iterate 1 (go_big_quiet_step ((intros; rfl)))
    refine q_cell 3 _ _ (.int .i64 o.kd) rfl rfl rfl (fun w h => by simp [go_sem, h]) (fun w h => Blk.cell h 0) ?_
    simp only [Act.put, List.setIfInBounds_toArray, List.set_cons_zero, List.set_cons_succ]
    iterate 1 (go_big_quiet_step ((intros; rfl)))
    refine wpQuiet_nil ?_
    refine headF_one (i := 0) (by kernel_rfl) (by omega) ?_
    refine wpOp_at rfl rfl (wp_call_at rfl #[] (by kernel_rfl) Tryd.call39 ((refnames_any w1.drew).mono ?_))
    rintro e w2 ⟨b, rfl, _, hT, hb⟩
    have D2 : Hid (Below w1.heap.size w1 w2) := Lib.hid ((Below.refl _ w1).drew.trans hb)
    have HT := Lib.hid hT
    have K2 := Lib.hid (K1.out.below D2.out K1.out.lt)
    have B2 := Lib.hid (B1.out.trans (D2.out.mono B1.out.size))
    have hnc : w2.cell? ⟨b, k, none⟩ = some (.string N) := by rw [HT.out.cell k]; exact HNC.out
    clear hb hT K1 B1 D2
    refine ⟨_, rfl, K2.out, ?_⟩
    simp only [Act.put, List.getElem_toArray, List.getElem_cons_zero, List.getElem_cons_succ, List.setIfInBounds_toArray, List.set_cons_zero, List.set_cons_succ]
    refine headF_takes (fun w' => w'.cell? ⟨b, k, none⟩ = some (.string N) ∧ Blk w' w.heap.size 35 (cellsOq o)) (m := 2) (f := 0) [4, 5] (fun _ h => h.2) (by kernel_rfl) ⟨hnc, K2.out⟩ ?_
    simp only [List.filterMap_cons, List.filterMap_nil, List.getElem?_toArray, List.getElem?_cons_zero, List.getElem?_cons_succ]
    show wpQuiet _ _ _ _ [_, _] _
    iterate 1 (go_big_quiet_step ((intros; rfl)))
    refine q_cell 9 _ _ (.string N) rfl rfl rfl (fun w h => by simp [go_sem, h]) (fun w h => by simpa using h.1) ?_
    simp only [Act.put, List.setIfInBounds_toArray, List.set_cons_zero, List.set_cons_succ]
    refine wpQuiet_nil ?_
    show Region.seqB _ _ _ _ _ = true ∧ _
    refine ⟨by kernel_rfl, ?_⟩
    simp only [Act.put, List.getElem_toArray, List.getElem_cons_zero, List.getElem_cons_succ, List.setIfInBounds_toArray, List.set_cons_zero, List.set_cons_succ, List.drop_succ_cons, List.drop_zero]
    clear hnc HT HNC HSUB hsub hk0 hk7
    have hc0 : w2.cell? ⟨w.heap.size, 0, none⟩ = some (.int .i64 o.kd) := K2.out.cell 0
    go_wp2_with (fail)
    refine NoPanic.normal ?_
    go_wp2_with (fail)
    refine (HOP.out w2).mono ?_
    rintro e w3 ⟨rfl, rfl⟩
    clear hc0 HOP
    go_wp2_with (fail)
    go_loopw [3, 5] (fun l i wr => ∃ (j : Nat) (S : ByteArray), j ≤ n ∧ S.size ≤ 11 + j * 21 ∧ i = .int .i64 j ∧ l = .string S ∧ Hid (S = N ++ bs (opdT o (ds.take j))) ∧ Hid (Blk wr w.heap.size 35 (cellsOq o)) ∧ Hid (Below w.heap.size w wr)) (fun _ i _ => n - (intOf i).toNat)
    case atStart => exact ⟨0, N, by omega, by have := HNL.out; omega, rfl, rfl, Lib.hid (by exact ByteArray.append_empty.symm), K2, B2⟩
    case round =>
      clear B2 K2
      obtain ⟨j, S, hj, hS, rfl, rfl, HS, K3, B3⟩ := hrel
      by_cases hlt : j < n
      · obtain ⟨d, hd⟩ : ∃ d, ds[j]? = some d := ⟨_, List.getElem?_eq_getElem (by rw [HN.out]; exact hlt)⟩
        have hidx := HI.out j d hd
        obtain ⟨u, hu, hu64⟩ := HG.out d
        have HS2 : Hid ((S ++ ⟨#[32]⟩) ++ bs (decI (u : Int)) = N ++ bs (opdT o (ds.take (j + 1)))) := Lib.hid (by
          rw [opdT_snoc hd, hu, HS.out, ← bs_append, ByteArray.append_assoc, ByteArray.append_assoc]
          rfl)
        have HF := Lib.hid (fun w => refformat_any 20 u w (lt_pow20 hu64) hu64)
        have hT := dec_len hu64
        have HT : Hid (bs (decI (u : Int)) = ⟨(Lib.decDigits u).toArray⟩) := Lib.hid rfl
        rw [← HT.out] at HF
        generalize bs (decI (u : Int)) = T at *
        have hc1 : wr.cell? ⟨w.heap.size, 1, none⟩ = some (.int .i64 o.ix) := K3.out.cell 1
        have hc2 : wr.cell? ⟨w.heap.size, 2, none⟩ = some (.int .i64 o.tg) := K3.out.cell 2
        have hc3 : wr.cell? ⟨w.heap.size, 3, none⟩ = some (.int .u64 o.am) := K3.out.cell 3
        clear hd HT hu64
        cases d with
        | am =>
          have hidx2 : ∀ w : World, (Instr.index 9 (.string SO) (.int .i64 (j : Int))).run Tryd.prog w = .ok (.int .u8 97) w := hidx
          have hu2 : o.am = (u : Int) := hu
          rw [hu2] at hc3
          clear hidx hu hu2
          go_wp2_with (fail)
          refine (HF.out _).mono ?_
          rintro e w5 ⟨rfl, rfl⟩
          go_wp2_with (fail)
          go_roundw
          case rel => exact ⟨j + 1, _, by omega, by have h32 : (⟨#[32]⟩ : ByteArray).size = 1 := rfl; rw [ByteArray.size_append, ByteArray.size_append]; omega, by go_num, rfl, HS2, K3, B3⟩
          case measure => simp [intOf]; omega
        | ix =>
          have hidx2 : ∀ w : World, (Instr.index 9 (.string SO) (.int .i64 (j : Int))).run Tryd.prog w = .ok (.int .u8 105) w := hidx
          have hu2 : IntKind.u64.wrap o.ix = (u : Int) := hu
          clear hidx hu
          go_wp2_with (fail)
          refine (HF.out _).mono ?_
          rintro e w5 ⟨rfl, rfl⟩
          go_wp2_with (fail)
          go_roundw
          case rel => exact ⟨j + 1, _, by omega, by have h32 : (⟨#[32]⟩ : ByteArray).size = 1 := rfl; rw [ByteArray.size_append, ByteArray.size_append]; omega, by go_num, rfl, HS2, K3, B3⟩
          case measure => simp [intOf]; omega
        | tg =>
          have hidx2 : ∀ w : World, (Instr.index 9 (.string SO) (.int .i64 (j : Int))).run Tryd.prog w = .ok (.int .u8 116) w := hidx
          have hu2 : IntKind.u64.wrap o.tg = (u : Int) := hu
          clear hidx hu
          go_wp2_with (fail)
          refine (HF.out _).mono ?_
          rintro e w5 ⟨rfl, rfl⟩
          go_wp2_with (fail)
          go_roundw
          case rel => exact ⟨j + 1, _, by omega, by have h32 : (⟨#[32]⟩ : ByteArray).size = 1 := rfl; rw [ByteArray.size_append, ByteArray.size_append]; omega, by go_num, rfl, HS2, K3, B3⟩
          case measure => simp [intOf]; omega
      · obtain rfl : j = n := by omega
        clear hlt
        have hlt : ¬ j < j := by omega
        have HS2 : Hid (S = N ++ bs (opdT o ds)) := Lib.hid (by rw [HS.out, List.take_of_length_le (by rw [HN.out]; exact Nat.le_refl _)])
        go_wp2_with (fail)
        go_ret
        exact ⟨by rw [HL.out, ← HS2.out]; rfl, B3.out⟩
end Go.Proofs.YtniehmlklbggdaaDoor
