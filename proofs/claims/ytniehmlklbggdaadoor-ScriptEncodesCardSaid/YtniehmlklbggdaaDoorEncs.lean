/- Encode on a list of operations: the program's and the reference's. -/
import Derived.Test.YtniehmlklbggdaaDoorMem
import Derived.Test.YtniehmlklbggdaaDoorEnc
import Derived.Test.YtniehmlklbggdaaDoorRefE
namespace Go.Proofs.YtniehmlklbggdaaDoor
open Go Go.RowKit
set_option linter.unusedVariables false
set_option linter.unusedSimpArgs false
set_option maxRecDepth 100000

/-- What Encode answers for a list. -/
def EncPost (l : List Oq) (w : World) (e : Ending) (w' : World) : Prop :=
  ((∃ o ∈ l, validB o = false) ∧ e = .returned (.tuple #[.slice none 0 0, .bool false]) ∨ (∀ o ∈ l, validB o = true) ∧ ∃ v, e = .returned (.tuple #[v, .bool true]) ∧ OwnB w' w.heap.size v (encA l).length (encA l)) ∧ Below w.heap.size w w'
theorem take_next {l : List Oq} {k : Nat} {o : Oq} {P : Oq → Prop} (h : l[k]? = some o) (hp : ∀ x ∈ l.take k, P x) (ho : P o) : ∀ x ∈ l.take (k + 1), P x := by
  intro x hx
  rw [List.take_add_one, h] at hx
  rcases List.mem_append.1 hx with hx | hx
  · exact hp x hx
  · simp at hx
    subst hx
    exact ho
theorem encA_bd {l : List Oq} {k : Nat} (hv : ∀ x ∈ l.take k, validB x = true) (hf : ∀ x ∈ l, FitsOq x) : (encA (l.take k)).length ≤ 11 * k := by
  have := encA_len (l := l.take k) fun x hx => ⟨hv x hx, hf x (List.mem_of_mem_take hx)⟩
  have h2 : (l.take k).length ≤ k := List.length_take_le _ _
  omega
set_option maxHeartbeats 1600000 in
theorem encodes_any (a : Option Addr) (n cp : Nat) (l : List Oq) (w : World) (h : LstR Oq.row 4 w (fun _ => False) a l) (hn : l.length = n) (hf : ∀ x ∈ l, FitsOq x) (hl : n ≤ 9000) :
    Calls Tryd.prog 13 #[.slice a n cp] w (EncPost l w) := by
  have HL := Lib.hid h
  have HN := Lib.hid hn
  have HF := Lib.hid hf
  clear h hn hf
  go_enter Tryd.func13, Tryd.ntmps13
  go_wp2
  go_loopw [4, 11] (fun v i wr => ∃ k : Nat, k ≤ n ∧ i = .int .i64 k ∧ Hid (∀ x ∈ l.take k, validB x = true) ∧ Hid (OwnB wr w.heap.size v (encA (l.take k)).length (encA (l.take k))) ∧ Hid (Below w.heap.size w wr)) (fun _ i _ => n - (intOf i).toNat)
  case atStart => exact ⟨0, by omega, rfl, Lib.hid (fun x hx => by simp at hx), Lib.hid (OwnB.nil _ _), Lib.hid (Below.refl _ _)⟩
  case round =>
    obtain ⟨k, hk, rfl, HV, HO, HB⟩ := hrel
    by_cases hlt : k < n
    · obtain ⟨o, ho⟩ : ∃ o, l[k]? = some o := ⟨_, List.getElem?_eq_getElem (by have := HN.out; omega)⟩
      obtain ⟨b1, o1, rfl, -, -, r1⟩ := (HL.out.below HB.out).at ho
      have R1 := Lib.hid r1
      have hm : o ∈ l := List.mem_of_getElem? ho
      have HFO := Lib.hid (HF.out o hm)
      have HMO := Lib.hid hm
      have HT := Lib.hid (encA_take ho)
      have HLE := Lib.hid (encA_bd HV.out HF.out)
      have HNX := Lib.hid (fun h => take_next (P := fun x => validB x = true) ho HV.out h)
      have HB1 := Lib.hid (HB.out.alloc HB.out.size (.cells (cellsOq o) 35))
      have K1 : Hid (Blk (wr.alloc (.cells (cellsOq o) 35)) wr.heap.size 35 (cellsOq o)) := Lib.hid (Blk.new wr _ _)
      have O1 := Lib.hid (HO.out.alloc (.cells (cellsOq o) 35))
      clear ho r1 hm HB HO
      go_upto_region 5 with (first | (refine wpList_load_Oq rfl 35 _ rfl b1 (o1 + k * 4) rfl o _ R1.out Tryd.underlying35 rfl infoOq ?_) | (refine wpList_store_row rfl _ _ _ rfl wr.heap.size (cellsOq o) rfl rfl 35 _ (heap_alloc_new wr _) infoOq rfl (cellsOq_one _) ?_; rw [World.setRow_alloc_new]))
      generalize wr.alloc (.cells (cellsOq o) 35) = w1 at *
      generalize wr.heap.size = g at *
      go_wp2_with (refine wpList_load_row rfl 35 _ rfl g rfl 35 (cellsOq o) (0, 0) _ K1.out Tryd.underlying35 rfl infoOq ?_)
      rcases hv : validB o with _ | _
      · refine (encode_no o hv HFO.out w1).mono ?_
        rintro e w2 ⟨rfl, b2⟩
        have B2 := Lib.hid (HB1.out.trans (b2.mono HB1.out.size))
        have HVV := Lib.hid hv
        clear b2 hv
        go_wp2_with (fail)
        go_ret2
        exact ⟨.inl ⟨⟨o, HMO.out, HVV.out⟩, rfl⟩, B2.out⟩
      · obtain ⟨ds, hds, _⟩ := shape_of hv HFO.out
        have HAL := Lib.hid (encL_all hds)
        have h11 : (encL o).length ≤ 11 := by rw [encL_len hds]; have := (ods_some hds).2.2.1; omega
        have H11 := Lib.hid h11
        refine (encode_yes o hv HFO.out w1).mono ?_
        rintro e w2 ⟨v2, rfl, o2, b2⟩
        obtain ⟨a2, c2, rfl, hl2, _, _, hb2⟩ := o2.bys (S := fun _ => False) HAL.out (fun _ _ h => h)
        have Y2 := Lib.hid hb2
        have HL2 := Lib.hid hl2
        have B2 := Lib.hid (HB1.out.trans (b2.mono HB1.out.size))
        have O2 : Hid (OwnB w2 w.heap.size u4 (encA (l.take k)).length (encA (l.take k))) := Lib.hid (ownsR_below O1.out b2)
        have HV2 := Lib.hid (HNX.out hv)
        have HS : Hid ((encA (l.take k)).length + (encL o).length ≤ 100000) := Lib.hid (by have := HLE.out; have := H11.out; omega)
        clear o2 b2 hb2 hl2 hv hds h11 O1 K1 HB1
        go_wp2_with (refine arm_app O2.out Y2.out rfl _ _ rfl rfl rfl rfl HS.out B2.out.size ?_; intro v3 w3 q1 q2 q3; have O3 := Lib.hid q1; have B3 := Lib.hid (B2.out.grown q2 B2.out.size (fun i hi => O2.out.ge hi)); clear q1 q2 q3)
        go_roundw
        case rel => exact ⟨k + 1, by omega, by go_num, HV2, Lib.hid (by rw [HT.out, List.length_append]; exact O3.out), B3⟩
        case measure => simp [intOf]; omega
    · obtain rfl : k = n := by omega
      clear hlt
      have hlt : ¬ k < k := by omega
      have HE : Hid (l.take k = l) := Lib.hid (List.take_of_length_le (by rw [HN.out]; exact Nat.le_refl _))
      rw [HE.out] at HV HO
      go_wp2_with (fail)
      go_ret2
      exact ⟨.inr ⟨HV.out, _, rfl, HO.out⟩, HB.out⟩
set_option maxHeartbeats 1600000 in
theorem refencodes_any (a : Option Addr) (n cp : Nat) (l : List Oq) (w : World) (h : LstR Oq.row 4 w (fun _ => False) a l) (hn : l.length = n) (hf : ∀ x ∈ l, FitsOq x) (hl : n ≤ 9000) :
    Calls Tryd.prog 14 #[.slice a n cp] w (EncPost l w) := by
  have HL := Lib.hid h
  have HN := Lib.hid hn
  have HF := Lib.hid hf
  clear h hn hf
  go_enter Tryd.func14, Tryd.ntmps14
  go_wp2
  go_loopw [4, 5] (fun v i wr => ∃ k : Nat, k ≤ n ∧ i = .int .i64 k ∧ Hid (∀ x ∈ l.take k, validB x = true) ∧ Hid (OwnB wr w.heap.size v (encA (l.take k)).length (encA (l.take k))) ∧ Hid (Below w.heap.size w wr)) (fun _ i _ => n - (intOf i).toNat)
  case atStart => exact ⟨0, by omega, rfl, Lib.hid (fun x hx => by simp at hx), Lib.hid (OwnB.nil _ _), Lib.hid (Below.refl _ _)⟩
  case round =>
    obtain ⟨k, hk, rfl, HV, HO, HB⟩ := hrel
    by_cases hlt : k < n
    · obtain ⟨o, ho⟩ : ∃ o, l[k]? = some o := ⟨_, List.getElem?_eq_getElem (by have := HN.out; omega)⟩
      have L1 := Lib.hid (HL.out.below HB.out)
      obtain ⟨b1, o1, rfl, -, -, r1⟩ := L1.out.at ho
      have R1 := Lib.hid r1
      have hm : o ∈ l := List.mem_of_getElem? ho
      have HFO := Lib.hid (HF.out o hm)
      have HMO := Lib.hid hm
      have HT := Lib.hid (encA_take ho)
      have HLE := Lib.hid (encA_bd HV.out HF.out)
      have HNX := Lib.hid (fun h => take_next (P := fun x => validB x = true) ho HV.out h)
      have HO' := Lib.hid ho
      clear ho r1 hm
      go_wp2_with (refine wpList_load_Oq rfl 35 _ rfl b1 (o1 + k * 4) rfl o _ R1.out Tryd.underlying35 rfl infoOq ?_)
      rcases hv : validB o with _ | _
      · have HR := refvalid_any o wr
        rw [hv] at HR
        refine HR.mono ?_
        rintro e w2 ⟨rfl, b2⟩
        have B2 := Lib.hid (HB.out.trans (b2.mono HB.out.size))
        have HVV := Lib.hid hv
        clear b2 hv HR
        go_wp2_with (fail)
        go_ret2
        exact ⟨.inl ⟨⟨o, HMO.out, HVV.out⟩, rfl⟩, B2.out⟩
      · have HR := refvalid_any o wr
        rw [hv] at HR
        obtain ⟨ds, hds, _⟩ := shape_of hv HFO.out
        have HAL := Lib.hid (encL_all hds)
        have h11 : (encL o).length ≤ 11 := by rw [encL_len hds]; have := (ods_some hds).2.2.1; omega
        have H11 := Lib.hid h11
        have HE := Lib.hid (fun w => refencode_any o ds ds.length rfl hds HFO.out w)
        refine HR.mono ?_
        rintro e w1 ⟨rfl, b1'⟩
        have B1 := Lib.hid (HB.out.trans (b1'.mono HB.out.size))
        have R2 := Lib.hid (rangeAt_same R1.out (b1'.block b1 (by
          have h0 := R1.out 0 _ rfl
          rw [Nat.add_zero] at h0
          exact block_lt_of_cell h0)))
        have O1 : Hid (OwnB w1 w.heap.size u4 (encA (l.take k)).length (encA (l.take k))) := Lib.hid (ownsR_below HO.out b1')
        have HV2 := Lib.hid (HNX.out hv)
        clear HR b1' hv hds h11 HB HO R1 L1
        go_wp2_with (refine wpList_load_Oq rfl 35 _ rfl b1 (o1 + k * 4) rfl o _ R2.out Tryd.underlying35 rfl infoOq ?_)
        refine (HE.out w1).mono ?_
        rintro e w2 ⟨v2, rfl, o2, b2⟩
        obtain ⟨a2, c2, rfl, hl2, _, _, hb2⟩ := o2.bys (S := fun _ => False) HAL.out (fun _ _ h => h)
        have Y2 := Lib.hid hb2
        have B2 := Lib.hid (B1.out.trans (b2.mono B1.out.size))
        have O2 : Hid (OwnB w2 w.heap.size u4 (encA (l.take k)).length (encA (l.take k))) := Lib.hid (ownsR_below O1.out b2)
        have HS : Hid ((encA (l.take k)).length + (encL o).length ≤ 100000) := Lib.hid (by have := HLE.out; have := H11.out; omega)
        clear o2 b2 hb2 hl2 O1 B1
        go_wp2_with (refine arm_app O2.out Y2.out rfl _ _ rfl rfl rfl rfl HS.out B2.out.size ?_; intro v3 w3 q1 q2 q3; have O3 := Lib.hid q1; have B3 := Lib.hid (B2.out.grown q2 B2.out.size (fun i hi => O2.out.ge hi)); clear q1 q2 q3)
        go_roundw
        case rel => exact ⟨k + 1, by omega, by go_num, HV2, Lib.hid (by rw [HT.out, List.length_append]; exact O3.out), B3⟩
        case measure => simp [intOf]; omega
    · obtain rfl : k = n := by omega
      clear hlt
      have hlt : ¬ k < k := by omega
      have HE : Hid (l.take k = l) := Lib.hid (List.take_of_length_le (by rw [HN.out]; exact Nat.le_refl _))
      rw [HE.out] at HV HO
      go_wp2_with (fail)
      go_ret2
      exact ⟨.inr ⟨HV.out, _, rfl, HO.out⟩, HB.out⟩
end Go.Proofs.YtniehmlklbggdaaDoor
