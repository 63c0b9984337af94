/- The statement OpValid, walked: it returns true for all bytes. -/
import Derived.Test.YtfepfcalfhegfaaDoorLive
namespace Go.Proofs.YtfepfcalfhegfaaDoor
open Go Go.RowKit
set_option linter.unusedVariables false
set_option linter.unusedSimpArgs false
set_option maxRecDepth 100000

theorem shape_fits {o : Oq} {l : List Od} (h : Shape o l) : FitsOq o := by
  have I : ∀ n : Int, -1 ≤ n → n ≤ 65535 → (Lit.int .i64 n).wf = true := fun n h0 h1 => WalkArith.wf_i64 (by omega)
  have U : ∀ n : Int, 0 ≤ n ∧ n ≤ 18446744073709551615 → (Lit.int .u64 n).wf = true := fun n h => by
    simp [Lit.wf, IntKind.min, IntKind.max, IntKind.signed, IntKind.bits]; omega
  cases h with
  | am k a h h0 => exact ⟨I _ (by simp; omega) (by simp; omega), rfl, rfl, U _ h0⟩
  | ix k i h h0 => exact ⟨I _ (by simp; omega) (by simp; omega), I _ (by simp; omega) (by simp; omega), rfl, rfl⟩
  | it k i t h h0 h1 => exact ⟨I _ (by simp; omega) (by simp; omega), I _ (by simp; omega) (by simp; omega), I _ (by simp; omega) (by simp; omega), rfl⟩
  | ia k i a h h0 h1 => exact ⟨I _ (by simp; omega) (by simp; omega), I _ (by simp; omega) (by simp; omega), rfl, U _ h1⟩
  | no k h => exact ⟨I _ (by simp; omega) (by simp; omega), rfl, rfl, rfl⟩
theorem dec_shape {L : List Int} (hL : AllB L) (h0 : 0 < L.length) {o : Oq} {n : Int} (h : decS L 0 = (o, n)) (hk0 : o.kd ≠ 0) : ∃ l, Shape o l := by
  unfold decS at h
  cases hk : ods (L.getD 0 0) with
  | none =>
    rw [hk] at h
    simp only [Prod.mk.injEq] at h
    exact absurd (by rw [← h.1]; rfl) hk0
  | some l =>
    rw [hk] at h
    simp only at h
    split at h
    · simp only [Prod.mk.injEq, Nat.zero_add] at h
      obtain ⟨rfl, rfl⟩ := h
      exact ⟨l, (shape_read hk (L.drop (0 + 1)) (all_drop hL _) (by simp; omega)).1⟩
    · simp only [Prod.mk.injEq] at h
      exact absurd (by rw [← h.1]; rfl) hk0
theorem valid_zero (w : World) : Calls Tryd.prog 10 #[.agg (cellsOq oqZ)] w fun e w' => e = .returned (.bool false) ∧ Below w.heap.size w w' :=
  valid_any oqZ ⟨rfl, rfl, rfl, rfl⟩ w
set_option maxHeartbeats 1600000 in
theorem opvalid_bad (a : Option Addr) (len cap : Nat) (w : World) (h : NamesAt w) (hbad : len = 0 ∨ 100 < len) :
    Calls Tryd.prog 6 #[.slice a len cap] w fun e w' => e = .returned (.bool true) ∧ Below w.heap.size w w' := by
  have HA := Lib.hid (alive_any w h)
  clear h
  rcases hbad with rfl | h1
  · go_enter Tryd.func6, Tryd.ntmps6
    go_wp2_with (fail)
    refine HA.out.mono ?_
    rintro e w3 ⟨rfl, b3⟩
    have B3 := Lib.hid b3
    clear b3
    go_wp2
    go_ret
    exact ⟨rfl, B3.out⟩
  · have g0 : ((len : Int) == 0) = false := by simp; omega
    have g1 : decide ((100 : Int) < (len : Int)) = true := by simp; omega
    clear h1
    go_enter Tryd.func6, Tryd.ntmps6
    go_wp2_with (fail)
    refine HA.out.mono ?_
    rintro e w3 ⟨rfl, b3⟩
    have B3 := Lib.hid b3
    clear b3
    go_wp2
    go_ret
    exact ⟨rfl, B3.out⟩
set_option maxHeartbeats 3200000 in
theorem opvalid_good (a : Option Addr) (len cap : Nat) (L : List Int) (hl : L.length = len) (hcap : len ≤ cap) (hm : cap ≤ 9223372036854775807) (w : World) (h : NamesAt w) (h0 : 0 < len) (h1 : len ≤ 100) (hb : Bys w (fun _ => False) a L) :
    Calls Tryd.prog 6 #[.slice a len cap] w fun e w' => e = .returned (.bool true) ∧ Below w.heap.size w w' := by
  have HN := Lib.hid h
  have HA := Lib.hid (fun w => alive_any w)
  have HD := Lib.hid (dec_any L a len cap 0 hl hcap hm h0 w hb)
  obtain ⟨o, ho⟩ : ∃ o, (decS L 0).1 = o := ⟨_, rfl⟩
  obtain ⟨n, hn⟩ : ∃ n, (decS L 0).2 = n := ⟨_, rfl⟩
  have hdec : decS L 0 = (o, n) := by rw [← ho, ← hn]
  rw [ho, hn] at HD
  have hcase := enc_dec hb.1 (by omega) hdec
  have HSH := Lib.hid (fun h => dec_shape hb.1 (by omega) hdec h)
  have hnb : 1 ≤ n ∧ n ≤ (len : Int) := by
    rcases hcase with ⟨_, h2, h3⟩ | ⟨_, _, h3, h4, h5⟩
    · rw [hl] at h3; exact ⟨h2, h3⟩
    · have h6 : 1 ≤ (encL o).length := by simp [encL]
      rw [hl] at h5
      omega
  have HC := Lib.hid hcase
  have Y0 := Lib.hid hb
  have HL := Lib.hid hl
  have g0 : ((len : Int) == 0) = false := by simp; omega
  have g1 : decide ((100 : Int) < (len : Int)) = false := by simp; omega
  have g2 : decide (n < 1) = false := by simp; omega
  have g3 : decide ((len : Int) < n) = false := by simp; omega
  clear h hb ho hn hdec hcase hl h0 h1
  go_enter Tryd.func6, Tryd.ntmps6
  go_wp2_with (fail)
  refine HD.out.mono ?_
  rintro e w1 ⟨rfl, b1⟩
  have B1 := Lib.hid b1
  have b1x : Below w1.heap.size w1 (w1.alloc (.cells (cellsOq o) 24)) := (Below.refl _ _).alloc (Nat.le_refl _) _
  have B2 := Lib.hid (B1.out.trans (b1x.mono B1.out.size))
  have K2 : Hid (Blk (w1.alloc (.cells (cellsOq o) 24)) w1.heap.size 24 (cellsOq o)) := Lib.hid (Blk.new w1 _ _)
  clear b1 b1x B1 HD
  go_upto_region 4 with (refine wpList_store_row rfl _ _ _ rfl w1.heap.size (cellsOq o) rfl rfl 24 _ (heap_alloc_new w1 _) infoOq rfl (cellsOq_one _) ?_; rw [World.setRow_alloc_new])
  have hc2 : (w1.alloc (.cells (cellsOq o) 24)).cell? ⟨w1.heap.size, 0, none⟩ = some (.int .i64 o.kd) := K2.out.cell 0
  generalize w1.alloc (.cells (cellsOq o) 24) = w2 at *
  generalize w1.heap.size = G at *
  have HA2 := Lib.hid (HA.out w2 (HN.out.below B2.out))
  rcases HC.out with ⟨rfl, _, _⟩ | ⟨hk, hv, hn, he, hle⟩
  · clear HC HSH
    have hk0 : (oqZ.kd == 0) = true := rfl
    go_wp2_with (fail)
    refine HA2.out.mono ?_
    rintro e w3 ⟨rfl, b3⟩
    have B3 := Lib.hid (B2.out.trans (b3.mono B2.out.size))
    have K3 := Lib.hid (K2.out.below b3 K2.out.lt)
    clear b3 B2 K2
    go_wp2_with (first | (refine wpList_load_rowG rfl 24 _ rfl G rfl 24 (cellsOq oqZ) (0, 0) _ K3.out Tryd.underlying24 rfl infoOq ?_) | (refine wpList_build_OqG 24 _ rfl rfl oqZ (by kernel_rfl) ?_) | (refine wpList_valG (.bool true) rfl (exec_eqOq (p := oqZ) (q := oqZ) rfl rfl (by decide)) ?_))
    refine (valid_zero w3).mono ?_
    rintro e w4 ⟨rfl, b4⟩
    have B4 := Lib.hid (B3.out.trans (b4.mono B3.out.size))
    clear b4
    go_wp2
    go_ret
    exact ⟨rfl, B4.out⟩
  · have hk0 : (o.kd == 0) = false := by simpa using hk
    obtain ⟨l, hs⟩ := HSH.out hk
    have hf := shape_fits hs
    have hol := (valid_of hs).1
    have HE := Lib.hid (fun w => encode_yes o hv hf w)
    have HV := Lib.hid (fun w => valid_any o hf w)
    rw [hv] at HV
    have HAL := Lib.hid (encL_all hol)
    obtain ⟨m, hm2⟩ : ∃ m, (encL o).length = m := ⟨_, rfl⟩
    rw [hm2] at HE hn he hle
    have HLM := Lib.hid hm2
    have HTK := Lib.hid he
    have hmc : m ≤ cap := by rw [HL.out] at hle; omega
    have Hm100 : Hid (m ≤ 100000) := Lib.hid (by rw [← hm2, encL_len hol]; have := (ods_some hol).2.2.1; omega)
    subst hn
    clear HC HSH hk hf hol hs hv he hm2 hle
    generalize encL o = E at *
    go_wp2_with (refine wpList_load_row rfl 24 _ rfl G rfl 24 (cellsOq o) (0, 0) _ K2.out Tryd.underlying24 rfl infoOq ?_)
    clear HA2 hc2
    refine (HE.out w2).mono ?_
    rintro e w3 ⟨v, rfl, o3, b3⟩
    obtain ⟨a3, cp, rfl, _, _, _, hb3⟩ := o3.bys (S := fun _ => False) HAL.out (fun _ _ h => h)
    have Y3 := Lib.hid hb3
    have B3 := Lib.hid (B2.out.trans (b3.mono B2.out.size))
    have K3 := Lib.hid (K2.out.below b3 K2.out.lt)
    clear b3 B2 K2 HE o3 hb3
    go_wp2_with (fail)
    refine (HA.out w3 (HN.out.below B3.out)).mono ?_
    rintro e w4 ⟨rfl, b4⟩
    have Y4 := Lib.hid (Y3.out.below b4)
    have B4 := Lib.hid (B3.out.trans (b4.mono B3.out.size))
    have K4 := Lib.hid (K3.out.below b4 K3.out.lt)
    clear b4 B3 K3 Y3
    go_wp2_with (refine wpList_load_rowG rfl 24 _ rfl G rfl 24 (cellsOq o) (0, 0) _ K4.out Tryd.underlying24 rfl infoOq ?_)
    refine (HV.out w4).mono ?_
    rintro e w5 ⟨rfl, b5⟩
    have Y5 := Lib.hid (Y4.out.below b5)
    have B5 := Lib.hid (B4.out.trans (b5.mono B4.out.size))
    have T5 : Hid (Bys w5 (fun _ => False) a E) := Lib.hid (by rw [HTK.out]; exact (Y0.out.below B5.out).take m)
    clear b5 B4 K4 Y4 HV
    go_wp2_with (fail)
    refine (equal_bytes _ _ _ _ m _ _ _ _ Y5.out T5.out HLM.out Hm100.out).mono ?_
    rintro e w6 ⟨rfl, q, hq⟩
    have B6 : Hid (Below w.heap.size w w6) := Lib.hid (by rw [hq]; exact below_drewN B5.out q)
    clear hq
    go_wp2
    go_ret
    exact ⟨rfl, B6.out⟩
theorem walk_OpValid (a0 : Option Addr) (len0 cap0 : Nat) (z0 : List Int) (w : World) (w0 : IsRow .u8 w a0 len0 cap0 z0) (hL : laidMetH Tryd.prog Rows.opValidRow.laid w) :
    Calls Tryd.prog 6 #[.slice a0 len0 cap0] w fun e w' => e = .returned (.bool true) ∧ Below w.heap.size w w' := by
  have h := names_of_laid hL
  obtain ⟨hb, hlen, hlc, hcm⟩ := Bys.of_row (S := fun _ => False) w0 (fun _ _ h => h)
  by_cases hbad : len0 = 0 ∨ 100 < len0
  · exact opvalid_bad a0 len0 cap0 w h hbad
  · exact opvalid_good a0 len0 cap0 _ hlen hlc (by unfold maxLen at hcm; omega) w h (by omega) (by omega) hb
end Go.Proofs.YtfepfcalfhegfaaDoor
