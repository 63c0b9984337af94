/- The walk of MergeConserves (written by mklaws.py). -/
import Derived.Test.YtnaheindlkehhaaTwo
namespace Go.Proofs.Ytnaheindlkehhaa
open Go Go.RowKit Go.Deep
set_option linter.unusedVariables false
set_option linter.unusedSimpArgs false
set_option maxRecDepth 100000

set_option maxHeartbeats 800000 in
theorem bail_MergeConserves (a0 a1 : Option Addr) (len0 cap0 len1 cap1 : Nat) (a2 : Nat → Int) (w : World) (h : chk a2 ≠ 0 ∨ 60 < len0 ∨ 60 < len1) :
    Calls Try.prog 6 #[.slice a0 len0 cap0, .slice a1 len1 cap1, .agg (cellsOf a2)] w fun e w' => e = .returned (.bool true) ∧ Below w.heap.size w w' := by
  have T0 := Lib.hid (OneC.new w a2)
  have HK := Lib.hid (refCheck_any a2)
  have HV := Lib.hid alive_any
  by_cases hc : chk a2 = 0
  · rw [hc] at HK
    by_cases h1 : 60 < len0
    · have d1 : decide ((60 : Int) < (len0 : Int)) = true := decide_eq_true (by omega)
      clear h hc
      go_enter Try.func6, Try.ntmps6
      go_upto_region 1 with (fail)
      generalize w.alloc (.cells (cellsOf a2) 26) = W at *
      go_wp2_with (first | (refine wpList_load_row rfl 26 _ rfl w.heap.size rfl 26 _ (0, 0) _ T0.out.1 Try.underlying26 rfl info24 ?_))
      refine (HK.out _).mono ?_
      rintro e w1 ⟨rfl, b1⟩
      have T1 := Lib.hid (T0.out.next b1)
      clear b1 T0 HK
      go_wp2_with fail
      refine (HV.out _).mono ?_
      rintro e w2 ⟨rfl, b2⟩
      have T2 := Lib.hid (T1.out.next b2)
      clear b2 T1
      go_wp2
      go_ret
      exact ⟨rfl, T2.out.2⟩
    · have d1 : decide ((60 : Int) < (len0 : Int)) = false := decide_eq_false (by omega)
      have d2 : decide ((60 : Int) < (len1 : Int)) = true := decide_eq_true (by omega)
      clear h hc
      go_enter Try.func6, Try.ntmps6
      go_upto_region 1 with (fail)
      generalize w.alloc (.cells (cellsOf a2) 26) = W at *
      go_wp2_with (first | (refine wpList_load_row rfl 26 _ rfl w.heap.size rfl 26 _ (0, 0) _ T0.out.1 Try.underlying26 rfl info24 ?_))
      refine (HK.out _).mono ?_
      rintro e w1 ⟨rfl, b1⟩
      have T1 := Lib.hid (T0.out.next b1)
      clear b1 T0 HK
      go_wp2_with fail
      refine (HV.out _).mono ?_
      rintro e w2 ⟨rfl, b2⟩
      have T2 := Lib.hid (T1.out.next b2)
      clear b2 T1
      go_wp2
      go_ret
      exact ⟨rfl, T2.out.2⟩
  · have hn : (chk a2 != 0) = true := by simpa using hc
    generalize chk a2 = x at *
    clear hc h
    go_enter Try.func6, Try.ntmps6
    go_upto_region 1 with (fail)
    generalize w.alloc (.cells (cellsOf a2) 26) = W at *
    go_wp2_with (first | (refine wpList_load_row rfl 26 _ rfl w.heap.size rfl 26 _ (0, 0) _ T0.out.1 Try.underlying26 rfl info24 ?_))
    refine (HK.out _).mono ?_
    rintro e w1 ⟨rfl, b1⟩
    have T1 := Lib.hid (T0.out.next b1)
    clear b1 T0 HK
    go_wp2_with fail
    refine (HV.out _).mono ?_
    rintro e w2 ⟨rfl, b2⟩
    have T2 := Lib.hid (T1.out.next b2)
    clear b2 T1
    go_wp2
    go_ret
    exact ⟨rfl, T2.out.2⟩
set_option maxHeartbeats 1600000 in
theorem unfit_MergeConserves (a0 a1 : Option Addr) (cap0 cap1 : Nat) (l : List Val) (q : List (Int × Int)) (a2 : Nat → Int) (w : World) (hc : chk a2 = 0) (h6 : 0 ≤ a2 6) (h17 : 0 ≤ a2 17) (hl : l.length ≤ 60) (hql : q.length ≤ 60) (hf : ∀ v ∈ l, FitsV v) (hL : Lst w (fun _ => False) a0 l) (hq : Prs w (fun _ => False) a1 q) (ht : ¬ totalOf l ≤ 18446744073709551615) :
    Calls Try.prog 6 #[.slice a0 l.length cap0, .slice a1 q.length cap1, .agg (cellsOf a2)] w fun e w' => e = .returned (.bool true) ∧ Below w.heap.size w w' := by
  have T0 := Lib.hid (OneC.new w a2)
  have HK := Lib.hid (refCheck_any a2)
  have HV := Lib.hid alive_any
  rw [hc] at HK
  have HS := Lib.hid (fun (cp cq : Nat) (a : Option Addr) (w : World) (hL : Lst w (fun _ => False) a l) (hq : Prs w (fun _ => False) a1 q) => step_any a a1 cp cq l q a2 w hL hq hf h17 hl hql)
  have HFI := Lib.hid (fun (w : World) (h : Lst w (fun _ => False) a0 l) => fits_any (fun _ => False) a0 cap0 l w h (by omega) hf)
  rw [decide_eq_false ht] at HFI
  have d1 : decide ((60 : Int) < (l.length : Int)) = false := decide_eq_false (by omega)
  have d2 : decide ((60 : Int) < (q.length : Int)) = false := decide_eq_false (by omega)
  have HL := Lib.hid hL
  obtain ⟨n, hn⟩ : ∃ n, l.length = n := ⟨_, rfl⟩
  obtain ⟨nq, hnq⟩ : ∃ nq, q.length = nq := ⟨_, rfl⟩
  rw [hn] at HFI d1 ⊢
  rw [hnq] at d2 ⊢
  clear hc hf hL hq hn hnq ht hl hql HS
  go_enter Try.func6, Try.ntmps6
  go_upto_region 1 with (fail)
  generalize w.alloc (.cells (cellsOf a2) 26) = W at *
  go_wp2_with (first | (refine wpList_load_row rfl 26 _ rfl w.heap.size rfl 26 _ (0, 0) _ T0.out.1 Try.underlying26 rfl info24 ?_))
  refine (HK.out _).mono ?_
  rintro e w1 ⟨rfl, b1⟩
  have T1 := Lib.hid (T0.out.next b1)
  clear b1 T0 HK
  go_wp2_with fail
  refine (HFI.out _ (HL.out.below T1.out.2)).mono ?_
  rintro e w2 ⟨rfl, b2⟩
  have T2 := Lib.hid (T1.out.next b2)
  clear b2 T1 HFI
  go_wp2_with fail
  refine (HV.out _).mono ?_
  rintro e w3 ⟨rfl, b3⟩
  have T3 := Lib.hid (T2.out.next b3)
  clear b3 T2
  go_wp2
  go_ret
  exact ⟨rfl, T3.out.2⟩
set_option maxHeartbeats 1600000 in
theorem good_MergeConserves (a0 a1 : Option Addr) (cap0 cap1 : Nat) (l : List Val) (q : List (Int × Int)) (a2 : Nat → Int) (w : World) (hc : chk a2 = 0) (h6 : 0 ≤ a2 6) (h17 : 0 ≤ a2 17) (hl : l.length ≤ 60) (hql : q.length ≤ 60) (hf : ∀ v ∈ l, FitsV v) (hL : Lst w (fun _ => False) a0 l) (hq : Prs w (fun _ => False) a1 q) (ht : totalOf l ≤ 18446744073709551615) :
    Calls Try.prog 6 #[.slice a0 l.length cap0, .slice a1 q.length cap1, .agg (cellsOf a2)] w fun e w' => e = .returned (.bool true) ∧ Below w.heap.size w w' := by
  have T0 := Lib.hid (OneC.new w a2)
  have HK := Lib.hid (refCheck_any a2)
  have HV := Lib.hid alive_any
  rw [hc] at HK
  have HS := Lib.hid (fun (cp cq : Nat) (a : Option Addr) (w : World) (hL : Lst w (fun _ => False) a l) (hq : Prs w (fun _ => False) a1 q) => step_any a a1 cp cq l q a2 w hL hq hf h17 hl hql)
  have HFI := Lib.hid (fun (w : World) (h : Lst w (fun _ => False) a0 l) => fits_any (fun _ => False) a0 cap0 l w h (by omega) hf)
  rw [decide_eq_true ht] at HFI
  have d1 : decide ((60 : Int) < (l.length : Int)) = false := decide_eq_false (by omega)
  have d2 : decide ((60 : Int) < (q.length : Int)) = false := decide_eq_false (by omega)
  have HL := Lib.hid hL
  have HQ := Lib.hid hq
  have HT := Lib.hid (fun (w : World) (h : Lst w (fun _ => False) a0 l) => reftotal_any (fun _ => False) a0 cap0 l w h (by omega) hf ht)
  have HA := Lib.hid (fun (w : World) (h : Lst w (fun _ => False) a0 l) => refactive_any (fun _ => False) a0 cap0 l w h (by omega) hf (by have := (active_le hf).2; omega))
  obtain ⟨m, hm⟩ : ∃ m, stepL (a2 6) l (q.take (stepN a2 q)) = m := ⟨_, rfl⟩
  have hs := stepL_sums (a2 6) (q.take (stepN a2 q)) l
  have hmf := stepL_fits (a2 6) (q.take (stepN a2 q)) l hf
  have hml := stepL_len (a2 6) (q.take (stepN a2 q)) l
  rw [hm] at hs hmf hml HS
  have HFM := Lib.hid (fun (a : Option Addr) (cp : Nat) (w : World) (h : Lst w (fun _ => False) a m) => fits_any (fun _ => False) a cp m w h (by omega) hmf)
  have HTM := Lib.hid (fun (a : Option Addr) (cp : Nat) (w : World) (h : Lst w (fun _ => False) a m) => reftotal_any (fun _ => False) a cp m w h (by omega) hmf (by omega))
  have HAM := Lib.hid (fun (a : Option Addr) (cp : Nat) (w : World) (h : Lst w (fun _ => False) a m) => refactive_any (fun _ => False) a cp m w h (by omega) hmf (by have := (active_le hf).2; omega))
  rw [hs.1, decide_eq_true ht] at HFM
  rw [hs.1] at HTM
  rw [hs.2] at HAM
  rw [hml] at HFM HTM HAM
  generalize totalOf l = tl at *
  generalize activeOf l = al at *
  obtain ⟨n, hn⟩ : ∃ n, l.length = n := ⟨_, rfl⟩
  obtain ⟨nq, hnq⟩ : ∃ nq, q.length = nq := ⟨_, rfl⟩
  rw [hn] at hml HFI HT HA HFM HTM HAM HS d1 ⊢
  rw [hnq] at HS d2 ⊢
  have HM := Lib.hid hml
  clear hc hf hL hq hn hnq ht hl hql hs hmf hml hm
  go_enter Try.func6, Try.ntmps6
  go_upto_region 1 with (fail)
  generalize w.alloc (.cells (cellsOf a2) 26) = W at *
  go_wp2_with (first | (refine wpList_load_row rfl 26 _ rfl w.heap.size rfl 26 _ (0, 0) _ T0.out.1 Try.underlying26 rfl info24 ?_))
  refine (HK.out _).mono ?_
  rintro e w1 ⟨rfl, b1⟩
  have T1 := Lib.hid (T0.out.next b1)
  clear b1 T0 HK
  go_wp2_with fail
  refine (HFI.out _ (HL.out.below T1.out.2)).mono ?_
  rintro e w2 ⟨rfl, b2⟩
  have T2 := Lib.hid (T1.out.next b2)
  clear b2 T1 HFI
  go_wp2_with (first | (refine wpList_load_row rfl 26 _ rfl w.heap.size rfl 26 _ (0, 0) _ T2.out.1 Try.underlying26 rfl info24 ?_))
  refine (HS.out cap0 cap1 a0 w2 (HL.out.below T2.out.2) (HQ.out.below T2.out.2)).mono ?_
  rintro e w3 ⟨v, g, rfl, ho, -, -, -, b3⟩
  have T3 := Lib.hid (T2.out.next b3)
  obtain ⟨a3, cp3, rfl, -, -⟩ := owns_slice (owns_base ho (Nat.zero_le _))
  have HL3 : Hid (Lst w3 (fun _ => False) a3 m) := Lib.hid (by have := owns_lst (S := fun _ => False) (l := m) (by rw [HM.out]; exact owns_base ho (Nat.zero_le _)) (fun _ _ h => h); exact this)
  clear b3 T2 HS ho
  go_wp2_with fail
  refine (HV.out _).mono ?_
  rintro e w4 ⟨rfl, b4⟩
  have T4 := Lib.hid (T3.out.next b4)
  have HL4 := Lib.hid (HL3.out.below b4)
  clear b4 T3 HL3
  go_wp2_with fail
  refine (HFM.out a3 cp3 w4 HL4.out).mono ?_
  rintro e w5 ⟨rfl, b5⟩
  have T5 := Lib.hid (T4.out.next b5)
  have HL5 := Lib.hid (HL4.out.below b5)
  clear b5 T4 HL4
  go_wp2_with fail
  refine (HTM.out a3 cp3 w5 HL5.out).mono ?_
  rintro e w6 ⟨rfl, b6⟩
  have T6 := Lib.hid (T5.out.next b6)
  have HL6 := Lib.hid (HL5.out.below b6)
  clear b6 T5 HL5
  go_wp2_with fail
  refine (HT.out w6 (HL.out.below T6.out.2)).mono ?_
  rintro e w7 ⟨rfl, b7⟩
  have T7 := Lib.hid (T6.out.next b7)
  have HL7 := Lib.hid (HL6.out.below b7)
  clear b7 T6 HL6
  go_wp2_with fail
  refine (HAM.out a3 cp3 w7 HL7.out).mono ?_
  rintro e w8 ⟨rfl, rfl⟩
  go_wp2_with fail
  refine (HA.out w7 (HL.out.below T7.out.2)).mono ?_
  rintro e w9 ⟨rfl, rfl⟩
  go_wp2_with fail
  go_ret
  exact ⟨rfl, T7.out.2⟩
theorem walk_MergeConserves (a0 : Option Addr) (len0 cap0 : Nat) (a1 : Option Addr) (len1 cap1 : Nat) (a2 : Nat → Int) (w : World) (w0 : IsVals w a0 len0 cap0) (w1 : IsPairs w a1 len1 cap1) (w2 : Fits a2) :
    Calls Try.prog 6 #[.slice a0 len0 cap0, .slice a1 len1 cap1, .agg (cellsOf a2)] w fun e w' => e = .returned (.bool true) ∧ Below w.heap.size w w' := by
  by_cases h : chk a2 ≠ 0 ∨ 60 < len0 ∨ 60 < len1
  · exact bail_MergeConserves a0 a1 len0 cap0 len1 cap1 a2 w h
  · have hc : chk a2 = 0 := by
      by_cases hc : chk a2 = 0
      · exact hc
      · exact absurd (.inl hc) h
    obtain ⟨-, -, l, hl, hf, hL⟩ := w0
    obtain ⟨-, -, q, hq, hQ⟩ := w1
    have hg := good_of_chk w2 hc
    subst hl hq
    by_cases ht : totalOf l ≤ 18446744073709551615
    · exact good_MergeConserves a0 a1 cap0 cap1 l q a2 w hc hg.1 hg.2 (by omega) (by omega) hf hL hQ ht
    · exact unfit_MergeConserves a0 a1 cap0 cap1 l q a2 w hc hg.1 hg.2 (by omega) (by omega) hf hL hQ ht
end Go.Proofs.Ytnaheindlkehhaa
