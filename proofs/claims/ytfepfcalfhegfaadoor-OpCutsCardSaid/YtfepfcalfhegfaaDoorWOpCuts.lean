/- The statement OpCuts, walked: it returns true for every operation and every cut. -/
import Derived.Test.YtfepfcalfhegfaaDoorLive
namespace Go.Proofs.YtfepfcalfhegfaaDoor
open Go Go.RowKit
set_option linter.unusedVariables false
set_option linter.unusedSimpArgs false
set_option maxRecDepth 100000

set_option maxHeartbeats 1600000 in
theorem cuts_bad (o : Oq) (c : Int) (w : World) (h : NamesAt w) (hbad : validB o = false ∨ o.kd = 7) :
    Calls Tryd.prog 7 #[.agg (cellsOq o), .int .u8 c] w fun e w' => e = .returned (.bool true) ∧ Below w.heap.size w w' := by
  have HN := Lib.hid h
  have K0 : Hid (Blk (w.alloc (.cells (cellsOq o) 24)) w.heap.size 24 (cellsOq o)) := Lib.hid (Blk.new w _ _)
  have B0 : Hid (Below w.heap.size w (w.alloc (.cells (cellsOq o) 24))) := Lib.hid ((Below.refl _ _).alloc (Nat.le_refl _) _)
  have HR := Lib.hid (fun w => refvalid_any o w)
  have HA := Lib.hid (fun w => alive_any w)
  have HB := Lib.hid hbad
  clear h hbad
  rcases hv : validB o with _ | _
  · rw [hv] at HR
    clear hv
    go_enter Tryd.func7, Tryd.ntmps7
    go_upto_region 1 with (fail)
    generalize w.alloc (.cells (cellsOq o) 24) = W at *
    go_wp2_with (refine wpList_load_row rfl 24 _ rfl w.heap.size rfl 24 (cellsOq o) (0, 0) _ K0.out Tryd.underlying24 rfl infoOq ?_)
    refine (HR.out W).mono ?_
    rintro e w2 ⟨rfl, b2⟩
    have B2 := Lib.hid (B0.out.trans (b2.mono B0.out.size))
    clear b2
    go_wp2_with (fail)
    refine (HA.out w2 (HN.out.below B2.out)).mono ?_
    rintro e w3 ⟨rfl, b3⟩
    have B3 := Lib.hid (B2.out.trans (b3.mono B2.out.size))
    clear b3
    go_wp2
    go_ret
    exact ⟨rfl, B3.out⟩
  · have h7 : o.kd = 7 := by
      rcases HB.out with h | h
      · rw [hv] at h; cases h
      · exact h
    have hk7 : (o.kd == 7) = true := by simpa using h7
    rw [hv] at HR
    clear hv h7
    go_enter Tryd.func7, Tryd.ntmps7
    go_upto_region 1 with (fail)
    generalize w.alloc (.cells (cellsOq o) 24) = W at *
    go_wp2_with (refine wpList_load_row rfl 24 _ rfl w.heap.size rfl 24 (cellsOq o) (0, 0) _ K0.out Tryd.underlying24 rfl infoOq ?_)
    refine (HR.out W).mono ?_
    rintro e w2 ⟨rfl, b2⟩
    have B2 := Lib.hid (B0.out.trans (b2.mono B0.out.size))
    have K2 := Lib.hid (K0.out.below b2 K0.out.lt)
    have hc2 : w2.cell? ⟨w.heap.size, 0, none⟩ = some (.int .i64 o.kd) := K2.out.cell 0
    clear b2
    go_wp2_with (fail)
    refine (HA.out w2 (HN.out.below B2.out)).mono ?_
    rintro e w3 ⟨rfl, b3⟩
    have B3 := Lib.hid (B2.out.trans (b3.mono B2.out.size))
    clear b3
    go_wp2
    go_ret
    exact ⟨rfl, B3.out⟩
set_option maxHeartbeats 3200000 in
theorem cuts_good (o : Oq) (c : Int) (hc : (Lit.int .u8 c).wf = true) (w : World) (hf : FitsOq o) (h : NamesAt w) (hv : validB o = true) (h7 : o.kd ≠ 7) :
    Calls Tryd.prog 7 #[.agg (cellsOq o), .int .u8 c] w fun e w' => e = .returned (.bool true) ∧ Below w.heap.size w w' := by
  have HN := Lib.hid h
  have K0 : Hid (Blk (w.alloc (.cells (cellsOq o) 24)) w.heap.size 24 (cellsOq o)) := Lib.hid (Blk.new w _ _)
  have B0 : Hid (Below w.heap.size w (w.alloc (.cells (cellsOq o) 24))) := Lib.hid ((Below.refl _ _).alloc (Nat.le_refl _) _)
  have HR := Lib.hid (fun w => refvalid_any o w)
  rw [hv] at HR
  have HA := Lib.hid (fun w => alive_any w)
  obtain ⟨l, ho, hs⟩ := shape_of hv hf
  have HRE := Lib.hid (fun w => refencode_any o l l.length rfl ho hf w)
  have HAL := Lib.hid (encL_all ho)
  have hne : szs l ≠ 0 := by
    intro h0
    cases hs with
    | am k a h h1 => simp [szs, Od.sz] at h0
    | ix k i h h1 => simp [szs, Od.sz] at h0
    | it k i t h h1 h2 => simp [szs, Od.sz] at h0
    | ia k i a h h1 h2 => simp [szs, Od.sz] at h0
    | no k h => exact h7 h
  have hn11 : (encL o).length ≤ 11 ∧ 2 ≤ (encL o).length := by rw [encL_len ho]; have := (ods_some ho).2.2.1; omega
  have HDC : Hid (∀ k, 1 ≤ k → k < (encL o).length → decS ((encL o).take k) 0 = (oqZ, (k : Int))) := Lib.hid fun k h1 h2 => dec_cut ho h1 h2
  have hk7 : (o.kd == 7) = false := by simpa using h7
  generalize encL o = L at *
  obtain ⟨n, hn⟩ : ∃ n, L.length = n := ⟨_, rfl⟩
  rw [hn] at HRE hn11 HDC
  have HLN := Lib.hid hn
  have hcb := bounds_u8 hc
  obtain ⟨cn, rfl⟩ := Int.eq_ofNat_of_zero_le hcb.1
  have hw : IntKind.i64.wrap (cn : Int) = (cn : Int) := by simp [IntKind.wrap, IntKind.bits, IntKind.signed]; omega
  clear h hf hv ho hn h7 hc hne
  go_enter Tryd.func7, Tryd.ntmps7
  go_upto_region 1 with (fail)
  generalize w.alloc (.cells (cellsOq o) 24) = W at *
  go_wp2_with (refine wpList_load_row rfl 24 _ rfl w.heap.size rfl 24 (cellsOq o) (0, 0) _ K0.out Tryd.underlying24 rfl infoOq ?_)
  refine (HR.out W).mono ?_
  rintro e w2 ⟨rfl, b2⟩
  have B2 := Lib.hid (B0.out.trans (b2.mono B0.out.size))
  have K2 := Lib.hid (K0.out.below b2 K0.out.lt)
  have hc2 : w2.cell? ⟨w.heap.size, 0, none⟩ = some (.int .i64 o.kd) := K2.out.cell 0
  clear b2 B0 K0 HR
  go_wp2_with (refine wpList_load_row rfl 24 _ rfl w.heap.size rfl 24 (cellsOq o) (0, 0) _ K2.out Tryd.underlying24 rfl infoOq ?_)
  refine (HRE.out w2).mono ?_
  rintro e w3 ⟨v, rfl, o3, b3⟩
  obtain ⟨a, cp, rfl, _, hcp, hcm, hb⟩ := o3.bys (S := fun _ => False) HAL.out (fun _ _ h => h)
  have Y3 := Lib.hid hb
  have B3 := Lib.hid (B2.out.trans (b3.mono B2.out.size))
  clear b3 B2 K2 HRE o3 hb hc2
  obtain ⟨m, hm⟩ : ∃ m, n = m + 1 := ⟨n - 1, by omega⟩
  have hsub : (n : Int) - 1 = (m : Int) := by omega
  have hmz : ¬ m = 0 := by omega
  have hm10 : m ≤ 10 := by omega
  have hn11' : n ≤ 11 := hn11.1
  have hlt := Nat.mod_lt cn (show 0 < m by omega)
  obtain ⟨r, hr⟩ : ∃ r : Nat, cn % m = r := ⟨_, rfl⟩
  rw [hr] at hlt
  have hri : (cn : Int) % (m : Int) = (r : Int) := by omega
  obtain ⟨K, hK⟩ : ∃ K, 1 + r = K := ⟨_, rfl⟩
  have hKi : (1 : Int) + (r : Int) = (K : Int) := by omega
  have hKc : K ≤ cp := by omega
  have hr10 : r ≤ 10 := by omega
  have hK1 : 1 ≤ K := by omega
  have HD3 := Lib.hid (HDC.out K hK1 (by omega))
  have Y4 := Lib.hid (Y3.out.take K)
  have HLK : Hid ((L.take K).length = K) := Lib.hid (by rw [List.length_take, HLN.out]; omega)
  have HCM : Hid (cp ≤ 9223372036854775807) := Lib.hid (by unfold maxLen at hcm; exact hcm)
  have HDA := Lib.hid (dec_any (L.take K) a K cp 0 HLK.out hKc HCM.out hK1 w3 Y4.out)
  rw [HD3.out] at HDA
  clear hm hr hK hlt hn11 HDC hcm hcp HLN HD3 HLK
  go_wp2_with (fail)
  refine HDA.out.mono ?_
  rintro e w8 ⟨rfl, b8⟩
  have B8 := Lib.hid (B3.out.trans (b8.mono B3.out.size))
  have b8x : Below w8.heap.size w8 (w8.alloc (.cells (cellsOq oqZ) 24)) := (Below.refl _ _).alloc (Nat.le_refl _) _
  have B9 := Lib.hid (B8.out.trans (b8x.mono B8.out.size))
  have N9 : Hid (Blk (w8.alloc (.cells (cellsOq oqZ) 24)) w8.heap.size 24 (cellsOq oqZ)) := Lib.hid (Blk.new w8 _ _)
  clear b8 b8x B8 B3 Y3 Y4 HDA
  go_upto_region 6 with (refine wpList_store_row rfl _ _ _ rfl w8.heap.size (cellsOq oqZ) rfl rfl 24 _ (heap_alloc_new w8 _) infoOq rfl (cellsOq_one _) ?_; rw [World.setRow_alloc_new])
  generalize w8.alloc (.cells (cellsOq oqZ) 24) = w9 at *
  generalize w8.heap.size = G at *
  go_wp2_with (fail)
  refine (HA.out w9 (HN.out.below B9.out)).mono ?_
  rintro e w10 ⟨rfl, b10⟩
  have B10 := Lib.hid (B9.out.trans (b10.mono B9.out.size))
  have N10 := Lib.hid (N9.out.below b10 N9.out.lt)
  clear b10 B9 N9
  go_wp2_with (first | (refine wpList_load_rowG rfl 24 _ rfl G rfl 24 (cellsOq oqZ) (0, 0) _ N10.out Tryd.underlying24 rfl infoOq ?_) | (refine wpList_build_OqG 24 _ rfl rfl oqZ (by kernel_rfl) ?_) | (refine wpList_valG (.bool true) rfl (exec_eqOq (p := oqZ) (q := oqZ) rfl rfl (by decide)) ?_))
  go_ret
  exact ⟨by simp, B10.out⟩
theorem walk_OpCuts (a0 : Oq) (a1 : Int) (w : World) (w0 : FitsOq a0) (w1 : (Lit.int .u8 a1).wf = true) (hL : laidMetH Tryd.prog Rows.opCutsRow.laid w) :
    Calls Tryd.prog 7 #[.agg (cellsOq a0), .int .u8 a1] w fun e w' => e = .returned (.bool true) ∧ Below w.heap.size w w' := by
  have h := names_of_laid hL
  by_cases hbad : validB a0 = false ∨ a0.kd = 7
  · exact cuts_bad a0 a1 w h hbad
  · have hv : validB a0 = true := by
      rcases hv : validB a0 with _ | _
      · exact absurd (.inl hv) hbad
      · rfl
    exact cuts_good a0 a1 w1 w w0 h hv (fun h7 => hbad (.inr h7))
end Go.Proofs.YtfepfcalfhegfaaDoor
