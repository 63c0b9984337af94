/- The statement OpInverse, walked: it returns true for every operation and all bytes before and behind it. -/
import Derived.Test.YtfepfcalfhegfaaDoorLive
namespace Go.Proofs.YtfepfcalfhegfaaDoor
open Go Go.RowKit
set_option linter.unusedVariables false
set_option linter.unusedSimpArgs false
set_option maxRecDepth 100000

theorem Bys.fresh {w : World} {S : Nat → Prop} {a : Option Addr} {L : List Int} (h : Bys w S a L) : Bys w (fun i => w.heap.size ≤ i) a L := ⟨h.1, fun h0 => by
  obtain ⟨b, off, e, _, h2, h3⟩ := h.2 h0
  exact ⟨b, off, e, by omega, h2, h3⟩⟩
/-- Behind an append to a row of one's own. -/
theorem Bys.app {w w' : World} {B n : Nat} {v : Value} {L M : List Int} {a : Option Addr} (h : Bys w (fun i => B ≤ i) a M) (ho : OwnB w B v n L) (hg : w.grownBy w' v.ownBlock) : Bys w' (fun i => B ≤ i) a M :=
  h.kept (Kept.of_grown (S := fun i => v.ownBlock = some i) hg fun i hi => hi.symm) fun i _ hi => ho.ge hi
theorem ownB_empty (w : World) : OwnB (w.alloc (.cells #[] 5)) w.heap.size (.slice (some ⟨w.heap.size, 0, none⟩) 0 0) 0 [] := owns_empty (Blk.new w _ _) (Nat.le_refl _)
set_option maxHeartbeats 1600000 in
/-- The bad entrances. -/
theorem inverse_bad (o : Oq) (a1 a2 : Option Addr) (len1 cap1 len2 cap2 : Nat) (w : World) (h : NamesAt w) (hbad : 100 < len1 ∨ 100 < len2 ∨ validB o = false) :
    Calls Tryd.prog 5 #[.agg (cellsOq o), .slice a1 len1 cap1, .slice a2 len2 cap2] w fun e w' => e = .returned (.bool true) ∧ Below w.heap.size w w' := by
  have HN := Lib.hid h
  have K0 : Hid (Blk (w.alloc (.cells (cellsOq o) 24)) w.heap.size 24 (cellsOq o)) := Lib.hid (Blk.new w _ _)
  have B0 : Hid (Below w.heap.size w (w.alloc (.cells (cellsOq o) 24))) := Lib.hid ((Below.refl _ _).alloc (Nat.le_refl _) _)
  have HR := Lib.hid (fun w => refvalid_any o w)
  have HA := Lib.hid (fun w => alive_any w)
  clear h
  by_cases h1 : 100 < len1
  · have g1 : decide ((100 : Int) < (len1 : Int)) = true := by simp; omega
    clear hbad h1
    go_enter Tryd.func5, Tryd.ntmps5
    go_upto_region 1 with (fail)
    generalize w.alloc (.cells (cellsOq o) 24) = W at *
    go_wp2_with (fail)
    refine (HA.out W (HN.out.below B0.out)).mono ?_
    rintro e w3 ⟨rfl, b3⟩
    have B3 := Lib.hid (B0.out.trans (b3.mono B0.out.size))
    clear b3
    go_wp2
    go_ret
    exact ⟨rfl, B3.out⟩
  · have g1 : decide ((100 : Int) < (len1 : Int)) = false := by simp; omega
    by_cases h2 : 100 < len2
    · have g2 : decide ((100 : Int) < (len2 : Int)) = true := by simp; omega
      clear hbad h1 h2
      go_enter Tryd.func5, Tryd.ntmps5
      go_upto_region 1 with (fail)
      generalize w.alloc (.cells (cellsOq o) 24) = W at *
      go_wp2_with (fail)
      refine (HA.out W (HN.out.below B0.out)).mono ?_
      rintro e w3 ⟨rfl, b3⟩
      have B3 := Lib.hid (B0.out.trans (b3.mono B0.out.size))
      clear b3
      go_wp2
      go_ret
      exact ⟨rfl, B3.out⟩
    · have g2 : decide ((100 : Int) < (len2 : Int)) = false := by simp; omega
      have hv : validB o = false := by rcases hbad with h | h | h <;> first | omega | exact h
      rw [hv] at HR
      clear hbad h1 h2 hv
      go_enter Tryd.func5, Tryd.ntmps5
      go_upto_region 1 with (fail)
      generalize w.alloc (.cells (cellsOq o) 24) = W at *
      go_wp2_with (refine wpList_load_rowG rfl 24 _ rfl w.heap.size rfl 24 (cellsOq o) (0, 0) _ K0.out Tryd.underlying24 rfl infoOq ?_)
      refine (HR.out W).mono ?_
      rintro e w2 ⟨rfl, b2⟩
      have B2 := Lib.hid (B0.out.trans (b2.mono B0.out.size))
      clear b2
      go_wp2_with (fail)
      refine (HA.out w2 (HN.out.below B2.out)).mono ?_
      rintro e w3 ⟨rfl, b3⟩
      have B3 := Lib.hid (B2.out.trans (b3.mono B2.out.size))
      clear b3
      go_wp2
      go_ret
      exact ⟨rfl, B3.out⟩
set_option maxHeartbeats 3200000 in
theorem inverse_good (o : Oq) (a1 a2 : Option Addr) (len1 cap1 len2 cap2 : Nat) (L1 L2 : List Int) (w : World) (hf : FitsOq o) (h : NamesAt w) (h1 : len1 ≤ 100) (h2 : len2 ≤ 100) (hv : validB o = true) (hl1 : L1.length = len1) (hl2 : L2.length = len2)
    (hb1 : Bys w (fun _ => False) a1 L1) (hb2 : Bys w (fun _ => False) a2 L2) :
    Calls Tryd.prog 5 #[.agg (cellsOq o), .slice a1 len1 cap1, .slice a2 len2 cap2] w fun e w' => e = .returned (.bool true) ∧ Below w.heap.size w w' := by
  have HN := Lib.hid h
  have K0 : Hid (Blk (w.alloc (.cells (cellsOq o) 24)) w.heap.size 24 (cellsOq o)) := Lib.hid (Blk.new w _ _)
  have B0 : Hid (Below w.heap.size w (w.alloc (.cells (cellsOq o) 24))) := Lib.hid ((Below.refl _ _).alloc (Nat.le_refl _) _)
  have HR := Lib.hid (fun w => refvalid_any o w)
  rw [hv] at HR
  have HA := Lib.hid (fun w => alive_any w)
  have HE := Lib.hid (fun w => encode_yes o hv hf w)
  have HDE := Lib.hid (dec_enc hv hf L1 L2)
  obtain ⟨l, ho, _⟩ := shape_of hv hf
  have HAL := Lib.hid (encL_all ho)
  have hn11 : (encL o).length ≤ 11 ∧ 1 ≤ (encL o).length := by rw [encL_len ho]; have := (ods_some ho).2.2.1; omega
  have Y1 := Lib.hid hb1
  have Y2 := Lib.hid hb2
  have HL1 := Lib.hid hl1
  have HL2 := Lib.hid hl2
  have g1 : decide ((100 : Int) < (len1 : Int)) = false := by simp; omega
  have g2 : decide ((100 : Int) < (len2 : Int)) = false := by simp; omega
  generalize encL o = L at *
  obtain ⟨n, hn⟩ : ∃ n, L.length = n := ⟨_, rfl⟩
  rw [hn] at HE HDE hn11
  rw [hl1] at HDE
  have HLN := Lib.hid hn
  clear h hf hv ho hn hb1 hb2 hl1 hl2
  go_enter Tryd.func5, Tryd.ntmps5
  go_upto_region 1 with (fail)
  generalize w.alloc (.cells (cellsOq o) 24) = W at *
  go_wp2_with (refine wpList_load_rowG rfl 24 _ rfl w.heap.size rfl 24 (cellsOq o) (0, 0) _ K0.out Tryd.underlying24 rfl infoOq ?_)
  refine (HR.out W).mono ?_
  rintro e w2 ⟨rfl, b2⟩
  have B2 := Lib.hid (B0.out.trans (b2.mono B0.out.size))
  have K2 := Lib.hid (K0.out.below b2 K0.out.lt)
  clear b2 B0 K0 HR
  go_wp2_with (refine wpList_load_row rfl 24 _ rfl w.heap.size rfl 24 (cellsOq o) (0, 0) _ K2.out Tryd.underlying24 rfl infoOq ?_)
  refine (HE.out w2).mono ?_
  rintro e w3 ⟨v, rfl, o3, b3⟩
  obtain ⟨a, cp, rfl, _, _, _, hb⟩ := o3.bys (S := fun _ => False) HAL.out (fun _ _ h => h)
  have B3 := Lib.hid (B2.out.trans (b3.mono B2.out.size))
  have K3 := Lib.hid (K2.out.below b3 K2.out.lt)
  have ba : Below w3.heap.size w3 (w3.alloc (.cells #[] 5)) := (Below.refl _ _).alloc (Nat.le_refl _) _
  have P0 := Lib.hid ((Y1.out.below B3.out).fresh.below ba)
  have P1 := Lib.hid (hb.fresh.below ba)
  have P2 := Lib.hid ((Y2.out.below B3.out).fresh.below ba)
  have O0 := Lib.hid (ownB_empty w3)
  have B4 := Lib.hid (B3.out.trans (ba.mono B3.out.size))
  have K4 := Lib.hid (K3.out.below ba K3.out.lt)
  have Z4 : Hid (w3.heap.size ≤ (w3.alloc (.cells #[] 5)).heap.size) := Lib.hid (by simp)
  have ZW : Hid (w.heap.size < w3.heap.size) := Lib.hid K3.out.lt
  clear b3 B2 K2 HE o3 hb Y1 Y2 ba K3 B3
  have e4 : Hid (0 + len1 ≤ 100000) := Lib.hid (by omega)
  have e5 : Hid (0 + len1 + n ≤ 100000) := Lib.hid (by omega)
  have e6 : Hid (0 + len1 + n + len2 ≤ 100000) := Lib.hid (by omega)
  go_wp2_with (first
    | (refine arm_app O0.out P0.out rfl _ _ rfl rfl rfl HL1.out e4.out Z4.out ?_; intro v5 w5 q1 q2 q3; have O5 := Lib.hid q1; have P15 := Lib.hid (P1.out.app O0.out q2); have P25 := Lib.hid (P2.out.app O0.out q2); have B5 := Lib.hid (B4.out.grown q2 B4.out.size (fun i hi => by have := O0.out.ge hi; have := ZW.out; omega)); have K5 := Lib.hid (K4.out.grown q2 (fun hi => by have := O0.out.ge hi.symm; have := ZW.out; omega)); have Z5 := Lib.hid (Nat.le_trans Z4.out q2.size); clear q1 q2 q3)
    | (refine arm_app O5.out P15.out rfl _ _ rfl rfl rfl HLN.out e5.out Z5.out ?_; intro v6 w6 q1 q2 q3; have O6 := Lib.hid q1; have P26 := Lib.hid (P25.out.app O5.out q2); have B6 := Lib.hid (B5.out.grown q2 B5.out.size (fun i hi => by have := O5.out.ge hi; have := ZW.out; omega)); have K6 := Lib.hid (K5.out.grown q2 (fun hi => by have := O5.out.ge hi.symm; have := ZW.out; omega)); have Z6 := Lib.hid (Nat.le_trans Z5.out q2.size); clear q1 q2 q3)
    | (refine arm_app O6.out P26.out rfl _ _ rfl rfl rfl HL2.out e6.out Z6.out ?_; intro v7 w7 q1 q2 q3; have O7 := Lib.hid q1; have B7 := Lib.hid (B6.out.grown q2 B6.out.size (fun i hi => by have := O6.out.ge hi; have := ZW.out; omega)); have K7 := Lib.hid (K6.out.grown q2 (fun hi => by have := O6.out.ge hi.symm; have := ZW.out; omega)); clear q1 q2 q3))
  have hall : AllB ([] ++ L1 ++ L ++ L2) := fun x hx => by
    simp only [List.nil_append, List.mem_append] at hx
    rcases hx with (hx | hx) | hx
    · exact P0.out.1 x hx
    · exact HAL.out x hx
    · exact P2.out.1 x hx
  obtain ⟨a7, c7, rfl, hl7, hc7, hm7, hb7⟩ := O7.out.bys (S := fun _ => False) hall (fun _ _ h => h)
  have HD := dec_any ([] ++ L1 ++ L ++ L2) a7 (0 + len1 + n + len2) c7 len1 hl7 hc7 (by unfold maxLen at hm7; omega) (by omega) w7 hb7
  rw [List.nil_append, HDE.out] at HD
  refine HD.mono ?_
  rintro e w8 ⟨rfl, b8⟩
  have B8 := Lib.hid (B7.out.trans (b8.mono B7.out.size))
  have K8 := Lib.hid (K7.out.below b8 K7.out.lt)
  have b8x : Below w8.heap.size w8 (w8.alloc (.cells (cellsOq o) 24)) := (Below.refl _ _).alloc (Nat.le_refl _) _
  have B9 := Lib.hid (B8.out.trans (b8x.mono B8.out.size))
  have K9 := Lib.hid (K8.out.below b8x K8.out.lt)
  have N9 : Hid (Blk (w8.alloc (.cells (cellsOq o) 24)) w8.heap.size 24 (cellsOq o)) := Lib.hid (Blk.new w8 _ _)
  obtain ⟨D, hD⟩ : ∃ D : Int, ((len1 + n : Nat) : Int) = D := ⟨_, rfl⟩
  have HDD : Hid ((D == (len1 : Int) + (n : Int)) = true) := Lib.hid (by rw [← hD]; simp)
  clear hall hl7 hc7 hm7 hb7 HD b8 b8x B7 K7 B8 K8 O7 O6 O5 P15 P25 P26 P0 P1 P2 B4 K4 B5 K5 B6 K6 Z4 Z5 Z6 e4 e5 e6 O0
  simp only [hD]
  clear hD
  go_upto_region 8 with (refine wpList_store_row rfl _ _ _ rfl w8.heap.size (cellsOq o) rfl rfl 24 _ (heap_alloc_new w8 _) infoOq rfl (cellsOq_one _) ?_; rw [World.setRow_alloc_new])
  generalize w8.alloc (.cells (cellsOq o) 24) = w9 at *
  generalize w8.heap.size = G at *
  go_wp2_with (fail)
  refine (HA.out w9 (HN.out.below B9.out)).mono ?_
  rintro e w10 ⟨rfl, b10⟩
  have B10 := Lib.hid (B9.out.trans (b10.mono B9.out.size))
  have K10 := Lib.hid (K9.out.below b10 K9.out.lt)
  have N10 := Lib.hid (N9.out.below b10 N9.out.lt)
  have hdd := HDD.out
  clear b10 B9 K9 N9
  go_wp2_with (first | (refine wpList_load_rowG rfl 24 _ rfl G rfl 24 (cellsOq o) (0, 0) _ N10.out Tryd.underlying24 rfl infoOq ?_) | (refine wpList_load_rowG rfl 24 _ rfl w.heap.size rfl 24 (cellsOq o) (0, 0) _ K10.out Tryd.underlying24 rfl infoOq ?_) | (refine wpList_valG (.bool true) rfl (exec_eqOq (p := o) (q := o) rfl rfl (by simp)) ?_))
  go_ret
  exact ⟨rfl, B10.out⟩
theorem walk_OpInverse (a0 : Oq) (a1 : Option Addr) (len1 cap1 : Nat) (z1 : List Int) (a2 : Option Addr) (len2 cap2 : Nat) (z2 : List Int) (w : World) (w0 : FitsOq a0) (w1 : IsRow .u8 w a1 len1 cap1 z1) (w2 : IsRow .u8 w a2 len2 cap2 z2) (hL : laidMetH Tryd.prog Rows.opInverseRow.laid w) :
    Calls Tryd.prog 5 #[.agg (cellsOq a0), .slice a1 len1 cap1, .slice a2 len2 cap2] w fun e w' => e = .returned (.bool true) ∧ Below w.heap.size w w' := by
  have h := names_of_laid hL
  obtain ⟨hb1, hl1, _, _⟩ := Bys.of_row (S := fun _ => False) w1 (fun _ _ h => h)
  obtain ⟨hb2, hl2, _, _⟩ := Bys.of_row (S := fun _ => False) w2 (fun _ _ h => h)
  by_cases hbad : 100 < len1 ∨ 100 < len2 ∨ validB a0 = false
  · exact inverse_bad a0 a1 a2 len1 cap1 len2 cap2 w h hbad
  · have hv : validB a0 = true := by
      rcases hv : validB a0 with _ | _
      · exact absurd (.inr (.inr hv)) hbad
      · rfl
    exact inverse_good a0 a1 a2 len1 cap1 len2 cap2 _ _ w w0 h (by omega) (by omega) hv hl1 hl2 hb1 hb2
end Go.Proofs.YtfepfcalfhegfaaDoor
