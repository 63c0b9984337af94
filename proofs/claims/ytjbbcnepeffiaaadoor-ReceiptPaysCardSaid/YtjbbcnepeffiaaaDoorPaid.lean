/- Paid. -/
import Derived.Test.YtjbbcnepeffiaaaDoorSum
import Derived.Test.YtjbbcnepeffiaaaDoorPlain
import Derived.Test.YtjbbcnepeffiaaaDoorBuild
import Derived.Deep.CutRange
namespace Go.Proofs.YtjbbcnepeffiaaaDoor
open Go Go.RowKit Go.Deep
set_option linter.unusedVariables false
set_option linter.unusedSimpArgs false
set_option maxRecDepth 100000

/-- The amounts of payments, and of lists of them. -/
def amL (p : List Pm) : List Int := p.map (·.am)
def amsL (P : List (List Pm)) : List Int := P.flatMap amL
def sI : List Int → Int
  | [] => 0
  | x :: l => x + sI l
theorem sI_append (a b : List Int) : sI (a ++ b) = sI a + sI b := by
  induction a with
  | nil => simp [sI]
  | cons x a ih => simp only [List.cons_append, sI, ih]; omega
theorem sI_nonneg {l : List Int} (h : ∀ x ∈ l, 0 ≤ x) : 0 ≤ sI l := by
  induction l with
  | nil => simp [sI]
  | cons x l ih =>
    have := h x (by simp)
    have := ih (fun y hy => h y (by simp [hy]))
    simp only [sI]; omega
theorem sI_take_le {l : List Int} (h : ∀ x ∈ l, 0 ≤ x) (k : Nat) : sI (l.take k) ≤ sI l := by
  have e := congrArg sI (List.take_append_drop k l)
  rw [sI_append] at e
  have := sI_nonneg (l := l.drop k) (fun x hx => h x (List.mem_of_mem_drop hx))
  omega
theorem amL_snoc {p : List Pm} {j : Nat} {x : Pm} (h : p[j]? = some x) : amL (p.take (j + 1)) = amL (p.take j) ++ [x.am] := by
  unfold amL
  rw [List.take_add_one, h]
  simp
theorem amsL_snoc {P : List (List Pm)} {k : Nat} {p : List Pm} (h : P[k]? = some p) : amsL (P.take (k + 1)) = amsL (P.take k) ++ amL p := by
  unfold amsL
  rw [List.take_add_one, h, List.flatMap_append]
  simp
/-- The receipts l lead to the payments P. -/
def PaysAt (w : World) (l : List Rc) (P : List (List Pm)) : Prop := P.length = l.length ∧ ∀ (i : Nat) (v : Rc) (p : List Pm), l[i]? = some v → P[i]? = some p → (∃ la, RcAt w (fun _ => False) v la p) ∧ p.length ≤ 1000
theorem ams_nonneg {w : World} {l : List Rc} {P : List (List Pm)} (h : PaysAt w l P) : ∀ x ∈ amsL P, 0 ≤ x ∧ x ≤ 18446744073709551615 := by
  intro x hx
  obtain ⟨p, hp, hx⟩ := List.mem_flatMap.1 hx
  obtain ⟨q, hq, rfl⟩ := List.mem_map.1 hx
  obtain ⟨i, hi⟩ := List.mem_iff_getElem?.1 hp
  have hil : i < l.length := by rw [← h.1]; exact (List.getElem?_eq_some_iff.1 hi).1
  obtain ⟨⟨la, hr⟩, _⟩ := h.2 i _ p (List.getElem?_eq_getElem hil) hi
  exact u64_of (hr.fp q hq).2
/-- What is paid before the payment j of the receipt k is no more than what is paid in all. -/
theorem pre_le {w : World} {l : List Rc} {P : List (List Pm)} (h : PaysAt w l P) {k : Nat} {p : List Pm} (hp : P[k]? = some p) (j : Nat) : sI (amsL (P.take k) ++ amL (p.take j)) ≤ sI (amsL P) := by
  have nn := ams_nonneg h
  have e : amsL P = amsL (P.take (k + 1)) ++ amsL (P.drop (k + 1)) := by unfold amsL; rw [← List.flatMap_append, List.take_append_drop]
  have e2 : amL p = amL (p.take j) ++ amL (p.drop j) := by unfold amL; rw [← List.map_append, List.take_append_drop]
  rw [e, amsL_snoc hp, e2] at nn ⊢
  have n1 := sI_nonneg (l := amsL (P.drop (k + 1))) (fun x hx => (nn x (by simp [hx])).1)
  have n2 := sI_nonneg (l := amL (p.drop j)) (fun x hx => (nn x (by simp [hx])).1)
  simp only [sI_append]
  omega
theorem pre_nonneg {w : World} {l : List Rc} {P : List (List Pm)} (h : PaysAt w l P) {k : Nat} {p : List Pm} (hp : P[k]? = some p) (j : Nat) : 0 ≤ sI (amsL (P.take k) ++ amL (p.take j)) := by
  have nn := ams_nonneg h
  have e : amsL P = amsL (P.take (k + 1)) ++ amsL (P.drop (k + 1)) := by unfold amsL; rw [← List.flatMap_append, List.take_append_drop]
  have e2 : amL p = amL (p.take j) ++ amL (p.drop j) := by unfold amL; rw [← List.map_append, List.take_append_drop]
  rw [e, amsL_snoc hp, e2] at nn
  exact sI_nonneg (fun x hx => (nn x (by simp only [List.mem_append] at hx ⊢; rcases hx with hx | hx <;> simp [hx])).1)
/-- P21.3. -/
def paidQ (P : List (List Pm)) : Int := if sI (amsL P) ≤ 18446744073709551615 then sI (amsL P) else 0
def paidOk (P : List (List Pm)) : Bool := decide (sI (amsL P) ≤ 18446744073709551615)
theorem paid_yes {P : List (List Pm)} (h : sI (amsL P) ≤ 18446744073709551615) : paidQ P = sI (amsL P) ∧ paidOk P = true := ⟨if_pos h, decide_eq_true h⟩
theorem paid_no {P : List (List Pm)} (h : ¬ sI (amsL P) ≤ 18446744073709551615) : paidQ P = 0 ∧ paidOk P = false := ⟨if_neg h, decide_eq_false h⟩
theorem add_two (b : Nat) (t y : Int) (w : World) (h : Blk w b 33 #[.int .u64 t, .int .u64 y]) (ht : 0 ≤ t ∧ t ≤ 18446744073709551615) (hy : 0 ≤ y ∧ y ≤ 18446744073709551615) :
    Calls Tryd.prog 24 #[.slice (some ⟨b, 0, none⟩) 2 2] w fun e w' => e = .returned (.tuple #[.int .u64 (if t + y ≤ 18446744073709551615 then t + y else 0), .bool (decide (t + y ≤ 18446744073709551615))]) ∧ w = w' := by
  have h1 := add_row b 0 2 2 [t, y] w (by omega) (fun i hi => by
    rw [Nat.zero_add, h.cell i]
    obtain rfl | rfl : i = 0 ∨ i = 1 := by omega
    · rfl
    · rfl) (fun i => by
    match i with
    | 0 => exact ht
    | 1 => exact hy
    | i + 2 => exact ⟨by simp, by simp⟩)
  have e : sumTo [t, y] 2 = t + y := by simp [sumTo]
  unfold addQ addOk at h1
  rw [e] at h1
  exact h1
set_option maxHeartbeats 3200000 in
theorem paid_any (a : Option Addr) (n c : Nat) (l : List Rc) (P : List (List Pm)) (w : World) (hl : LstR Rc.row 9 w (fun _ => False) a l) (hn : l.length = n) (hP : PaysAt w l P) (hb : n ≤ 1000) :
    Calls Tryd.prog 16 #[.slice a n c] w fun e w' => e = .returned (.tuple #[.int .u64 (paidQ P), .bool (paidOk P)]) ∧ Below w.heap.size w w' := by
  have HL := Lib.hid hl
  have HN := Lib.hid hn
  have HP := Lib.hid hP
  clear hl hn hP
  go_enter Tryd.func16, Tryd.ntmps16
  go_wp2
  go_loopw [4, 5, 12] (fun s o i wr => ∃ (k : Nat) (t : Int), k ≤ n ∧ i = .int .i64 k ∧ s = .int .u64 t ∧ o = .bool true ∧ Hid (t = sI (amsL (P.take k)) ∧ 0 ≤ t ∧ t ≤ 18446744073709551615) ∧ Hid (Below w.heap.size w wr)) (fun _ _ i _ => n - (intOf i).toNat)
  case atStart => exact ⟨0, 0, by omega, rfl, rfl, rfl, Lib.hid ⟨rfl, by omega, by omega⟩, Lib.hid (Below.refl _ _)⟩
  case round =>
    obtain ⟨k, t, hk, rfl, rfl, rfl, HT, B0⟩ := hrel
    by_cases hlt : k < n
    · obtain ⟨v, hv⟩ : ∃ v, l[k]? = some v := ⟨_, List.getElem?_eq_getElem (by rw [HN.out]; exact hlt)⟩
      obtain ⟨p, hp⟩ : ∃ p, P[k]? = some p := ⟨_, List.getElem?_eq_getElem (by rw [HP.out.1, HN.out]; exact hlt)⟩
      obtain ⟨⟨la, hr⟩, hpl⟩ := HP.out.2 k v p hv hp
      obtain ⟨b, off, rfl, _, hbl, hrg⟩ := HL.out.at hv
      have RG := Lib.hid (rangeAt_same hrg (B0.out.block b hbl))
      have HR := Lib.hid hr
      have HPK := Lib.hid hp
      obtain ⟨pa, hpa⟩ : ∃ pa, v.pa = pa := ⟨_, rfl⟩
      obtain ⟨pn, hpn⟩ : ∃ pn, v.pn = pn := ⟨_, rfl⟩
      obtain ⟨pc, hpc⟩ : ∃ pc, v.pc = pc := ⟨_, rfl⟩
      have HV : Hid (v.pa = pa ∧ v.pn = pn ∧ v.pc = pc) := Lib.hid ⟨hpa, hpn, hpc⟩
      have HLP : Hid (LstR Pm.row 3 w (fun _ => False) pa p ∧ p.length = pn) := Lib.hid ⟨by rw [← hpa]; exact hr.pay, by rw [← hpn]; exact hr.pn⟩
      have hpnb : pn ≤ 1000 := by rw [← HLP.out.2]; exact hpl
      clear hrg hr hv hp hpa hpn hpc hpl hbl
      go_upto_region 5 with (first | (refine wpList_load_Rc rfl 26 _ rfl b (off + k * 9) rfl v _ RG.out Tryd.underlying26 rfl infoRc ?_) | (refine wpList_store_row rfl _ _ _ rfl wr.heap.size (cellsRc v) rfl rfl 26 _ (heap_alloc_new wr _) infoRc rfl (cellsRc_one _) ?_; rw [World.setRow_alloc_new]))
      have c7 : (wr.alloc (.cells (cellsRc v) 26)).cell? ⟨wr.heap.size, 7, none⟩ = some (.slice pa pn pc) := by rw [← HV.out.1, ← HV.out.2.1, ← HV.out.2.2]; exact (Blk.new wr _ _).cell 7
      have B1 : Hid (Below w.heap.size w (wr.alloc (.cells (cellsRc v) 26))) := Lib.hid (B0.out.alloc B0.out.size _)
      clear RG B0
      generalize wr.alloc (.cells (cellsRc v) 26) = w1 at *
      generalize wr.heap.size = rb at *
      go_wp2_with (fail)
      clear c7
      go_loopw [4, 5, 19] (fun s o i wr => ∃ (j : Nat) (u : Int), j ≤ pn ∧ i = .int .i64 j ∧ s = .int .u64 u ∧ o = .bool true ∧ Hid (u = sI (amsL (P.take k) ++ amL (p.take j)) ∧ 0 ≤ u ∧ u ≤ 18446744073709551615) ∧ Hid (Below w.heap.size w wr)) (fun _ _ i _ => pn - (intOf i).toNat)
      case atStart => exact ⟨0, t, by omega, rfl, rfl, rfl, Lib.hid (by simpa [amL] using HT.out), B1⟩
      case round =>
        clear B1
        obtain ⟨j, u, hj, rfl, rfl, rfl, HU, B2⟩ := hrel
        by_cases hjl : j < pn
        · obtain ⟨x, hx⟩ : ∃ x, p[j]? = some x := ⟨_, List.getElem?_eq_getElem (by rw [HLP.out.2]; exact hjl)⟩
          obtain ⟨pb, po, rfl, _, hbl, hrg⟩ := HLP.out.1.at hx
          have RP := Lib.hid (rangeAt_same hrg (B2.out.block pb hbl))
          have hxa := u64_of (HR.out.fp x (List.mem_of_getElem? hx)).2
          have HX := Lib.hid hx
          have HXA := Lib.hid hxa
          clear hrg hx hbl hxa
          go_upto_region 8 with (first | (refine wpList_load_Pm rfl 35 _ rfl pb (po + j * 3) rfl x _ RP.out Tryd.underlying35 rfl infoPm ?_) | (refine wpList_store_row rfl _ _ _ rfl wr.heap.size (cellsPm x) rfl rfl 35 _ (heap_alloc_new wr _) infoPm rfl (cellsPm_one _) ?_; rw [World.setRow_alloc_new]))
          have c1 : (wr.alloc (.cells (cellsPm x) 35)).cell? ⟨wr.heap.size, 1, none⟩ = some (.int .u64 x.am) := (Blk.new wr _ _).cell 1
          have B3 : Hid (Below w.heap.size w (wr.alloc (.cells (cellsPm x) 35))) := Lib.hid (B2.out.alloc B2.out.size _)
          clear RP B2
          generalize wr.alloc (.cells (cellsPm x) 35) = w2 at *
          generalize wr.heap.size = xb at *
          go_wp2_with (fail)
          refine (add_two _ u x.am _ (Blk.new _ _ _) HU.out.2 HXA.out).mono ?_
          by_cases hs : u + x.am ≤ 18446744073709551615
          · rw [if_pos hs, decide_eq_true hs]
            have HU2 : Hid (u + x.am = sI (amsL (P.take k) ++ amL (p.take (j + 1))) ∧ 0 ≤ u + x.am ∧ u + x.am ≤ 18446744073709551615) := Lib.hid ⟨by rw [amL_snoc HX.out, HU.out.1]; simp only [sI_append, sI]; omega, by have := HU.out.2; have := HXA.out; omega, hs⟩
            generalize u + x.am = u2 at *
            rintro e w3 ⟨rfl, rfl⟩
            have B4 : Hid (Below w.heap.size w (w2.alloc (.cells #[.int .u64 u, .int .u64 x.am] 33))) := Lib.hid (B3.out.alloc B3.out.size _)
            clear B3 c1 hs
            go_wp2_with (fail)
            go_roundw
            case rel => exact ⟨j + 1, u2, by omega, by go_num, rfl, rfl, HU2, B4⟩
            case measure => simp [intOf]; omega
          · rw [if_neg hs, decide_eq_false hs]
            have HNO : Hid (paidQ P = 0 ∧ paidOk P = false) := Lib.hid (paid_no (fun hle => hs (by
              have h1 := pre_le HP.out HPK.out (j + 1)
              rw [amL_snoc HX.out, ← List.append_assoc, sI_append, ← HU.out.1] at h1
              simp only [sI] at h1
              omega)))
            rintro e w3 ⟨rfl, rfl⟩
            have B4 : Hid (Below w.heap.size w (w2.alloc (.cells #[.int .u64 u, .int .u64 x.am] 33))) := Lib.hid (B3.out.alloc B3.out.size _)
            clear B3 c1 hs
            go_wp2_with (fail)
            go_ret2
            exact ⟨by rw [HNO.out.1, HNO.out.2]; rfl, B4.out⟩
        · obtain rfl : j = pn := by omega
          have HT2 : Hid (u = sI (amsL (P.take (k + 1))) ∧ 0 ≤ u ∧ u ≤ 18446744073709551615) := Lib.hid ⟨by
            rw [amsL_snoc HPK.out, HU.out.1, List.take_of_length_le (l := p) (by rw [HLP.out.2]; exact Nat.le_refl _)], HU.out.2⟩
          clear hjl
          have hjl : ¬ j < j := by omega
          go_wp2_with (fail)
          go_roundw
          case rel => exact ⟨k + 1, u, by omega, by go_num, rfl, rfl, HT2, B2⟩
          case measure => simp [intOf]; omega
    · obtain rfl : k = n := by omega
      have HE : Hid (t = sI (amsL P) ∧ t ≤ 18446744073709551615) := Lib.hid ⟨by rw [HT.out.1, List.take_of_length_le (by rw [HP.out.1, HN.out]; exact Nat.le_refl _)], HT.out.2.2⟩
      have HY := Lib.hid (paid_yes (P := P) (by rw [← HE.out.1]; exact HE.out.2))
      clear hlt
      have hlt : ¬ k < k := by omega
      go_wp2_with (fail)
      go_ret2
      exact ⟨by rw [HY.out.1, HY.out.2, ← HE.out.1]; rfl, B0.out⟩
end Go.Proofs.YtjbbcnepeffiaaaDoor
