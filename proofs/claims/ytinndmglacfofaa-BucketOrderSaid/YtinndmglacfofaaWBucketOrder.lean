/- The walk of BucketOrder. -/
import Derived.Test.YtinndmglacfofaaOrd
namespace Go.Proofs.Ytinndmglacfofaa
open Go Go.RowKit Go.Deep
set_option linter.unusedVariables false
set_option linter.unusedSimpArgs false

set_option maxHeartbeats 3200000 in
theorem walk_BucketOrder (a0 : Int) (a1 : Option Addr) (len1 cap1 : Nat) (w : World) (w0 : (Lit.int .u8 a0).wf = true) (w1 : IsOps w a1 len1 cap1) :
    Calls Try.prog 5 #[.int .u8 a0, .slice a1 len1 cap1] w fun e w' => e = .returned (.bool true) ∧ Below w.heap.size w w' := by
  have W1 := Lib.hid w1
  have hl1 : len1 ≤ 9223372036854775807 := by have := w1.1; have := w1.2.1; unfold maxLen at this; omega
  obtain ⟨z0, z1⟩ := u8_wf w0
  clear w0 w1
  obtain ⟨m, hm⟩ : ∃ m : Nat, a0 % 12 = (m : Int) := ⟨(a0 % 12).toNat, by omega⟩
  have hm12 : m < 12 := by omega
  have hm2 : Int.tmod a0 12 = (m : Int) := by rw [Int.tmod_eq_emod_of_nonneg z0]; exact hm
  obtain ⟨n, hn⟩ : ∃ n, n = m + 1 := ⟨_, rfl⟩
  have hmn : (m : Int) + 1 = (n : Int) := by omega
  have hn1 : 1 ≤ n := by omega
  have hn12 : n ≤ 12 := by omega
  clear hn hm
  have HN := Lib.hid (fun w => new_any n w (by omega) (by omega))
  go_enter Try.func5, Try.ntmps5
  go_wp2_with fail
  refine (HN.out _).mono ?_
  rintro e w1 ⟨b, S, rfl, hr, hS, hb⟩
  have H1 : Hid (Keep w (w1.alloc (.cells #[.slice none 0 0, .slice none 0 0] 29)) b w1.heap.size n []) := Lib.hid (Keep.new hr hS hb)
  clear hr hS hb
  generalize hr0 : w1.heap.size = r at *
  by_cases h100 : (100 : Int) < (len1 : Int)
  · have HB1 := Lib.hid H1.out.bel
    go_wp2_with fail
    refine (alive_any _).mono ?_
    rintro e w2 ⟨rfl, hb2⟩
    have HB := Lib.hid (HB1.out.trans (hb2.mono HB1.out.size))
    clear hb2
    go_wp2_with fail
    go_ret
    exact ⟨rfl, HB.out⟩
  · go_wp2_with fail
    go_loopw [32] (fun s32 wr => ∃ (k : Nat) (L : List Ent), k ≤ len1 ∧ L.length ≤ k ∧ s32 = .int .i64 k ∧ Hid (Keep w wr b r n L)) (fun s32 _ => len1 - (intOf s32).toNat)
    case atStart => exact ⟨0, [], by omega, by simp, rfl, H1⟩
    case round =>
      obtain ⟨k, L, hk, hLk, rfl, HR⟩ := hrel
      by_cases hlt : k < len1
      · obtain ⟨g, off, x, rfl, HX, hf⟩ := W1.out.at HR.out.bel hlt
        have HE : Hid (Blk (wr.alloc (.cells (opCells x) 31)) wr.heap.size 31 (opCells x)) := Lib.hid (Blk.new _ _ _)
        have hk1 : ¬ (k : Int) < 0 := by omega
        have hk2 : ¬ (len1 : Int) ≤ (k : Int) := by omega
        have hk3 : (k : Int) < (len1 : Int) := by omega
        have hl2 := stepL_len L x
        have HR2 := Lib.hid (HR.out.alloc (.cells (opCells x) 31))
        clear hf
        go_wp2_with (first | (refine wpList_load_op rfl 31 _ rfl g (off + k * 3) rfl x _ HX.out Try.underlying31 rfl infoO ?_) | (refine wpList_store_row rfl _ _ _ rfl wr.heap.size (opCells x) rfl rfl 31 _ (heap_alloc_new wr _) infoO rfl (opCells_one x) ?_; rw [World.setRow_alloc_new]) | (refine wpList_load_op rfl 31 _ rfl wr.heap.size 0 rfl x _ HE.out.op Try.underlying31 rfl infoO ?_))
        refine (HR2.out.doit x (by omega)).mono ?_
        rintro e w2 ⟨rfl, K2⟩
        clear HR HR2 HE HX
        go_wp2_with fail
        go_roundw
        case rel => exact ⟨k + 1, stepL L x, by omega, by omega, by go_num, K2⟩
        case measure => simp [intOf]; omega
      · obtain rfl : k = len1 := by omega
        clear hlt
        have hlt : ¬ k < k := by omega
        have hL100 : L.length ≤ 100 := by omega
        go_wp2_with fail
        refine (HR.out.rall (by omega)).mono ?_
        rintro e w2 ⟨t, a4, c4, a5, c5, rfl, HT, HI4, HI5, K2⟩
        have hq : t.length ≤ 100 := by have := HT.out.2.len; omega
        have HF : Hid (∀ k, k < t.length → 0 ≤ (t.getD k (0, 0)).1 ∧ (t.getD k (0, 0)).1 ≤ 1099511627776) := Lib.hid (fun k hk => by
          obtain ⟨S, hs⟩ := K2.out.ring
          exact stab_fits HT.out.2 hs.fits.2.2 hk)
        clear HR
        obtain ⟨q, hqe⟩ : ∃ q, q = t.length := ⟨_, rfl⟩
        have HQ := Lib.hid hqe
        have hq2 : q ≤ 100 := by omega
        rw [← hqe]
        clear hq hqe
        go_wp2_with fail
        obtain ⟨W0, hW0⟩ : ∃ W, W = w2 := ⟨_, rfl⟩
        subst hW0
        go_loopw [46] (fun s46 wr => ∃ e : Nat, e ≤ 2 ∧ s46 = .int .i64 e ∧ Hid (Below W0.heap.size W0 wr)) (fun s46 _ => 2 - (intOf s46).toNat)
        case atStart => exact ⟨0, by omega, rfl, Lib.hid (Below.refl _ _)⟩
        case round =>
          obtain ⟨e, he, rfl, HB⟩ := hrel
          by_cases he2 : e < 2
          · have he3 : (e : Int) < 2 := by omega
            obtain ⟨U, hU⟩ : ∃ W, W = wr := ⟨_, rfl⟩
            subst hU
            obtain ⟨S, hs⟩ := (K2.out.below HB.out).ring
            have HA := Lib.hid (ring_all hs (by omega) HT.out.1 HT.out.2)
            rw [← HQ.out] at HA
            clear hs
            go_wp2_with fail
            refine HA.out.mono ?_
            rintro x w3 ⟨a, cp, rfl, hf3, hb3⟩
            have HFR := Lib.hid hf3
            have HB3 := Lib.hid hb3
            have HI4b := Lib.hid ((HI4.out.below HB.out).below hb3)
            have HI5b := Lib.hid ((HI5.out.below HB.out).below hb3)
            clear hf3 hb3 HA
            go_wp2_with fail
            obtain ⟨V, hV⟩ : ∃ W, W = w3 := ⟨_, rfl⟩
            subst hV
            go_loopw [57] (fun s57 wr => ∃ j : Nat, j ≤ q ∧ s57 = .int .i64 j ∧ Hid (Below V.heap.size V wr)) (fun s57 _ => q - (intOf s57).toNat)
            case atStart => exact ⟨0, by omega, rfl, Lib.hid (Below.refl _ _)⟩
            case round =>
              obtain ⟨j, hj, rfl, HV⟩ := hrel
              by_cases hjq : j < q
              · have hj1 : ¬ (j : Int) < 0 := by omega
                have hj2 : ¬ (q : Int) ≤ (j : Int) := by omega
                have hj3 : (j : Int) < (q : Int) := by omega
                have hjt : j < t.length := by have := HQ.out; omega
                obtain ⟨g, rfl, hg, hrow⟩ := HFR.out.below HV.out (by omega)
                have HRX := Lib.hid (hrow.at (ent_at hjt))
                obtain ⟨g4, o4, rfl, _, _, hc4⟩ := HI4b.out.below HV.out (by rw [List.length_map]; omega)
                obtain ⟨g5, o5, rfl, _, _, hc5⟩ := HI5b.out.below HV.out (by rw [List.length_map]; omega)
                have c4 := hc4 j (by rw [List.length_map]; omega)
                have c5 := hc5 j (by rw [List.length_map]; omega)
                rw [map1_at hjt] at c4
                rw [map2_at hjt] at c5
                clear hc4 hc5 hrow hg hjt
                generalize t.getD j (0, 0) = v at *
                have HE : Hid (Blk (wr.alloc (.cells (cellsE v) 46)) wr.heap.size 46 (cellsE v)) := Lib.hid (Blk.new _ _ _)
                have HV2 : Hid (Below V.heap.size V (wr.alloc (.cells (cellsE v) 46))) := Lib.hid (HV.out.alloc HV.out.size _)
                have d4 := cell_alloc_some (.cells (cellsE v) 46) c4
                have d5 := cell_alloc_some (.cells (cellsE v) 46) c5
                clear c4 c5
                go_wp2_with (first | (refine wpList_load_ent rfl 46 _ rfl g (j * 2) rfl v _ HRX.out Try.underlying46 rfl infoE ?_) | (refine wpList_store_row rfl _ _ _ rfl wr.heap.size (cellsE v) rfl rfl 46 _ (heap_alloc_new wr _) infoE rfl (cellsE_one v) ?_; rw [World.setRow_alloc_new]) | (refine wpList_load_ent rfl 46 _ rfl wr.heap.size 0 rfl v _ HE.out.range Try.underlying46 rfl infoE ?_))
                generalize hA0 : wr.alloc (.cells (cellsE v) 46) = A at *
                refine wp_region_class (fun w' => ∃ q, w' = A.drewN q) (by kernel_rfl) (by kernel_rfl) ⟨1, rfl⟩ ?_
                refine q_load_ent 46 _ wr.heap.size 0 v _ rfl rfl rfl (fun w h => by obtain ⟨q, rfl⟩ := h; exact HE.out.range) Try.underlying46 rfl infoE ?_
                simp only [Act.put, List.setIfInBounds_toArray, List.set_cons_zero, List.set_cons_succ]
                iterate 3 (go_big_quiet_step ((intros; rfl)))
                refine q_cell 3 _ _ (.int .i64 v.1) rfl rfl rfl (fun w h => by simp [go_sem, h]) (fun w h => by obtain ⟨q, rfl⟩ := h; exact d4) ?_
                simp only [Act.put, List.setIfInBounds_toArray, List.set_cons_zero, List.set_cons_succ]
                iterate 3 (go_big_quiet_step ((intros; rfl)))
                refine q_cell 3 _ _ (.int .i64 v.2) rfl rfl rfl (fun w h => by simp [go_sem, h]) (fun w h => by obtain ⟨q, rfl⟩ := h; exact d5) ?_
                simp only [Act.put, List.setIfInBounds_toArray, List.set_cons_zero, List.set_cons_succ]
                iterate 1 (go_big_quiet_step ((intros; rfl)))
                refine q_val (.bool false) rfl (fun w => exec_nee (p := v) (q := v) rfl rfl (by simp)) ?_
                simp only [Act.put, List.setIfInBounds_toArray, List.set_cons_zero, List.set_cons_succ]
                refine wpQuiet_nil ?_
                intro _ hw'
                obtain ⟨m', hw''⟩ := hw'
                subst hw''
                have HV3 : Hid (Below V.heap.size V (A.drewN m')) := Lib.hid (below_drewN HV2.out m')
                clear HV HV2 HE HRX d4 d5
                go_wp2_with fail
                go_roundw
                case rel => exact ⟨j + 1, by omega, by go_num, HV3⟩
                case measure => simp [intOf]; omega
              · obtain rfl : j = q := by omega
                clear hjq
                have hjq : ¬ j < j := by omega
                have HRS : Hid (Rest U wr a t 0) := Lib.hid (Rest.start (HFR.out.below HV.out) (HB3.out.trans (HV.out.mono HB3.out.size)))
                clear HFR HI4b HI5b HV
                go_wp2_with fail
                go_loopw [76] (fun s76 wr => ∃ i : Nat, i ≤ j ∧ s76 = .int .i64 i ∧ Hid (Rest U wr a t i)) (fun s76 _ => j - (intOf s76).toNat)
                case atStart => exact ⟨0, by omega, rfl, HRS⟩
                case round =>
                  clear HRS
                  obtain ⟨i, hi, rfl, HRS⟩ := hrel
                  by_cases hij : i < j
                  · have hit : i < t.length := by have := HQ.out; omega
                    obtain ⟨g, rfl, hg, hc⟩ := HRS.out.2 hit
                    obtain ⟨c0, f0⟩ := hc i (Nat.le_refl _) hit
                    obtain ⟨v0, v1⟩ := HF.out i hit
                    have HST := Lib.hid (fun v => HRS.out.step hit v)
                    have hi1 : ¬ (i : Int) < 0 := by omega
                    have hi2 : ¬ (j : Int) ≤ (i : Int) := by omega
                    have hi3 : (i : Int) < (j : Int) := by omega
                    clear hc hit hg
                    generalize (t.getD i (0, 0)).1 = v at *
                    go_wp2_with fail
                    go_roundw
                    case rel => exact ⟨i + 1, by omega, by go_num, Lib.hid (HST.out _)⟩
                    case measure => simp [intOf]; omega
                  · obtain rfl : i = j := by omega
                    clear hij
                    have hij : ¬ i < i := by omega
                    have HB4 : Hid (Below W0.heap.size W0 wr) := Lib.hid (HB.out.trans (HRS.out.1.mono HB.out.size))
                    clear HRS
                    go_wp2_with fail
                    go_roundw
                    case rel => exact ⟨e + 1, by omega, by go_num, HB4⟩
                    case measure => simp [intOf]; omega
          · obtain rfl : e = 2 := by omega
            clear he2
            have K3 := Lib.hid (K2.out.below HB.out)
            go_wp2_with fail
            refine (alive_any _).mono ?_
            rintro x w4 ⟨rfl, hb4⟩
            have K4 := Lib.hid (K3.out.below hb4)
            clear hb4
            go_wp2_with fail
            go_ret
            exact ⟨by first | rfl | simp, K4.out.bel⟩
end Go.Proofs.Ytinndmglacfofaa
