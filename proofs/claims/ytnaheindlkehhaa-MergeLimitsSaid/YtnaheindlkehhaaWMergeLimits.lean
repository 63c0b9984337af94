/- The walk of MergeLimits (written by mklaws.py). -/
import Derived.Test.YtnaheindlkehhaaTwo
namespace Go.Proofs.Ytnaheindlkehhaa
open Go Go.RowKit Go.Deep
set_option linter.unusedVariables false
set_option linter.unusedSimpArgs false
set_option maxRecDepth 100000

set_option maxHeartbeats 800000 in
theorem bail_MergeLimits (a0 a1 : Option Addr) (len0 cap0 len1 cap1 : Nat) (a2 : Nat → Int) (w : World) (h : chk a2 ≠ 0 ∨ 60 < len0 ∨ 60 < len1) :
    Calls Try.prog 7 #[.slice a0 len0 cap0, .slice a1 len1 cap1, .agg (cellsOf a2)] w fun e w' => e = .returned (.bool true) ∧ Below w.heap.size w w' := by
  have T0 := Lib.hid (OneC.new w a2)
  have HK := Lib.hid (refCheck_any a2)
  have HV := Lib.hid alive_any
  by_cases hc : chk a2 = 0
  · rw [hc] at HK
    by_cases h1 : 60 < len0
    · have d1 : decide ((60 : Int) < (len0 : Int)) = true := decide_eq_true (by omega)
      clear h hc
      go_enter Try.func7, Try.ntmps7
      go_upto_region 1 with (fail)
      generalize w.alloc (.cells (cellsOf a2) 26) = W at *
      go_wp2_with (first | (refine wpList_load_row rfl 26 _ rfl w.heap.size rfl 26 _ (0, 0) _ T0.out.1 Try.underlying26 rfl info24 ?_))
      refine (HK.out _).mono ?_
      rintro e w1 ⟨rfl, b1⟩
      have T1 := Lib.hid (T0.out.next b1)
      clear b1 T0 HK
      go_wp2_with fail
      refine (HV.out _).mono ?_
      rintro e w2 ⟨rfl, b2⟩
      have T2 := Lib.hid (T1.out.next b2)
      clear b2 T1
      go_wp2
      go_ret
      exact ⟨rfl, T2.out.2⟩
    · have d1 : decide ((60 : Int) < (len0 : Int)) = false := decide_eq_false (by omega)
      have d2 : decide ((60 : Int) < (len1 : Int)) = true := decide_eq_true (by omega)
      clear h hc
      go_enter Try.func7, Try.ntmps7
      go_upto_region 1 with (fail)
      generalize w.alloc (.cells (cellsOf a2) 26) = W at *
      go_wp2_with (first | (refine wpList_load_row rfl 26 _ rfl w.heap.size rfl 26 _ (0, 0) _ T0.out.1 Try.underlying26 rfl info24 ?_))
      refine (HK.out _).mono ?_
      rintro e w1 ⟨rfl, b1⟩
      have T1 := Lib.hid (T0.out.next b1)
      clear b1 T0 HK
      go_wp2_with fail
      refine (HV.out _).mono ?_
      rintro e w2 ⟨rfl, b2⟩
      have T2 := Lib.hid (T1.out.next b2)
      clear b2 T1
      go_wp2
      go_ret
      exact ⟨rfl, T2.out.2⟩
  · have hn : (chk a2 != 0) = true := by simpa using hc
    generalize chk a2 = x at *
    clear hc h
    go_enter Try.func7, Try.ntmps7
    go_upto_region 1 with (fail)
    generalize w.alloc (.cells (cellsOf a2) 26) = W at *
    go_wp2_with (first | (refine wpList_load_row rfl 26 _ rfl w.heap.size rfl 26 _ (0, 0) _ T0.out.1 Try.underlying26 rfl info24 ?_))
    refine (HK.out _).mono ?_
    rintro e w1 ⟨rfl, b1⟩
    have T1 := Lib.hid (T0.out.next b1)
    clear b1 T0 HK
    go_wp2_with fail
    refine (HV.out _).mono ?_
    rintro e w2 ⟨rfl, b2⟩
    have T2 := Lib.hid (T1.out.next b2)
    clear b2 T1
    go_wp2
    go_ret
    exact ⟨rfl, T2.out.2⟩
set_option maxHeartbeats 1600000 in
theorem good_MergeLimits (a0 a1 : Option Addr) (cap0 cap1 : Nat) (l : List Val) (q : List (Int × Int)) (a2 : Nat → Int) (w : World) (hc : chk a2 = 0) (h6 : 0 ≤ a2 6) (h17 : 0 ≤ a2 17) (hl : l.length ≤ 60) (hql : q.length ≤ 60) (hf : ∀ v ∈ l, FitsV v) (hL : Lst w (fun _ => False) a0 l) (hq : Prs w (fun _ => False) a1 q) :
    Calls Try.prog 7 #[.slice a0 l.length cap0, .slice a1 q.length cap1, .agg (cellsOf a2)] w fun e w' => e = .returned (.bool true) ∧ Below w.heap.size w w' := by
  have T0 := Lib.hid (OneC.new w a2)
  have HK := Lib.hid (refCheck_any a2)
  have HV := Lib.hid alive_any
  rw [hc] at HK
  have HS := Lib.hid (fun (cp cq : Nat) (a : Option Addr) (w : World) (hL : Lst w (fun _ => False) a l) (hq : Prs w (fun _ => False) a1 q) => step_any a a1 cp cq l q a2 w hL hq hf h17 hl hql)
  have d1 : decide ((60 : Int) < (l.length : Int)) = false := decide_eq_false (by omega)
  have d2 : decide ((60 : Int) < (q.length : Int)) = false := decide_eq_false (by omega)
  have HL := Lib.hid hL
  have HQ := Lib.hid hq
  obtain ⟨m, hm⟩ : ∃ m, stepL (a2 6) l (q.take (stepN a2 q)) = m := ⟨_, rfl⟩
  have hml := stepL_len (a2 6) (q.take (stepN a2 q)) l
  have hlim := stepL_limits (a2 6) (q.take (stepN a2 q)) l h6
  have hnn : (q.take (stepN a2 q)).length = stepN a2 q := by rw [List.length_take]; have : stepN a2 q ≤ q.length := Nat.min_le_right _ _; omega
  have hnew := stepL_new (a2 6) l (q.take (stepN a2 q)) l
  rw [hnn] at hnew
  have hnd : (stepN a2 q : Int) ≤ a2 17 := by unfold stepN; omega
  rw [hm] at hml hlim hnew HS
  generalize stepD (a2 6) l (q.take (stepN a2 q)) = D at *
  generalize stepN a2 q = nd at *
  have HI := Lib.hid (And.intro hlim (And.intro hnew hnd))
  have d3 : decide (a2 17 < (nd : Int)) = false := decide_eq_false (by omega)
  obtain ⟨n, hn⟩ : ∃ n, l.length = n := ⟨_, rfl⟩
  obtain ⟨nq, hnq⟩ : ∃ nq, q.length = nq := ⟨_, rfl⟩
  rw [hn] at hml HS d1 hl ⊢
  rw [hnq] at HS d2 ⊢
  have HM := Lib.hid (And.intro hml hn)
  have hnn1 : (n != n) = false := by simp
  have hnn2 : ((n : Int) != (n : Int)) = false := by simp
  clear hc hf hL hq hn hnq hql hml hm hnn hlim hnew hnd
  go_enter Try.func7, Try.ntmps7
  go_upto_region 1 with (fail)
  generalize w.alloc (.cells (cellsOf a2) 26) = W at *
  go_wp2_with (first | (refine wpList_load_row rfl 26 _ rfl w.heap.size rfl 26 _ (0, 0) _ T0.out.1 Try.underlying26 rfl info24 ?_))
  refine (HK.out _).mono ?_
  rintro e w1 ⟨rfl, b1⟩
  have T1 := Lib.hid (T0.out.next b1)
  clear b1 T0 HK
  go_wp2_with (first | (refine wpList_load_row rfl 26 _ rfl w.heap.size rfl 26 _ (0, 0) _ T1.out.1 Try.underlying26 rfl info24 ?_))
  refine (HS.out cap0 cap1 a0 w1 (HL.out.below T1.out.2) (HQ.out.below T1.out.2)).mono ?_
  rintro e w3 ⟨v, g, rfl, ho, -, -, -, b3⟩
  have T3 := Lib.hid (T1.out.next b3)
  obtain ⟨a3, cp3, rfl, -, -⟩ := owns_slice (owns_base ho (Nat.zero_le _))
  have HL3 : Hid (Lst w3 (fun _ => False) a3 m) := Lib.hid (by have := owns_lst (S := fun _ => False) (l := m) (by rw [HM.out.1]; exact owns_base ho (Nat.zero_le _)) (fun _ _ h => h); exact this)
  clear b3 T1 HS ho
  have c17 : w3.cell? ⟨w.heap.size, 17, none⟩ = some (.int .i64 (a2 17)) := T3.out.1.cell 17
  go_wp2
  clear c17
  go_loopw [9, 47] (fun s9 s47 wr => ∃ k : Nat, k ≤ n ∧ s47 = .int .i64 k ∧ s9 = .int .i64 (newTo l m k) ∧ Hid (Below w3.heap.size w3 wr)) (fun _ s47 _ => n - (intOf s47).toNat)
  case atStart => exact ⟨0, by omega, rfl, rfl, Lib.hid (Below.refl _ _)⟩
  case round =>
    obtain ⟨k, hk, rfl, rfl, HB⟩ := hrel
    have hb := new_bounds l m k
    by_cases hlt : k < n
    · obtain ⟨v, hv⟩ : ∃ v, m[k]? = some v := ⟨_, List.getElem?_eq_getElem (by have := HM.out.1; omega)⟩
      obtain ⟨x, hx⟩ : ∃ x, l[k]? = some x := ⟨_, List.getElem?_eq_getElem (by have := HM.out.2; omega)⟩
      obtain ⟨g3, o3, rfl, r3⟩ := (HL3.out.below HB.out).at hv
      have B8 : Hid (Below w3.heap.size w3 (wr.alloc (.cells (cellsV v) 24))) := Lib.hid (HB.out.alloc HB.out.size _)
      obtain ⟨g0, o0, rfl, e0, e1, -⟩ := ((HL.out.below T3.out.2).below B8.out).at2 hx
      have R3 := Lib.hid r3
      have EV : Hid (Blk (wr.alloc (.cells (cellsV v) 24)) wr.heap.size 24 (cellsV v)) := Lib.hid (Blk.new _ _ _)
      have T8 := Lib.hid (T3.out.next B8.out)
      have lim := HI.out.1 k
      have nx : newTo l m (k + 1) = newTo l m k + (if (m.getD k val0).st = 7 ∧ (l.getD k val0).st ≠ 7 then 1 else 0) := rfl
      rw [getD_of hv, getD_of hx] at lim nx
      have NX := Lib.hid nx
      obtain ⟨N, hN⟩ : ∃ N, newTo l m k = N := ⟨_, rfl⟩
      rw [hN] at hb nx NX ⊢
      have k1 : ¬ (k : Int) < 0 := by omega
      have k2 : ¬ (n : Int) ≤ (k : Int) := by omega
      have k3 : (k : Int) < (n : Int) := by omega
      clear hv hx r3 nx hN
      go_upto_region 10 with (first | (refine wpList_load_val rfl 24 _ rfl g3 (o3 + k * 7) rfl v _ R3.out Try.underlying24 rfl infoV ?_) | (refine wpList_store_row rfl _ _ _ rfl wr.heap.size (cellsV v) rfl rfl 24 _ (heap_alloc_new wr _) infoV rfl (cellsV_one v) ?_; rw [World.setRow_alloc_new]))
      have v0 : (wr.alloc (.cells (cellsV v) 24)).cell? ⟨wr.heap.size, 0, none⟩ = some (.int .u64 v.bal) := EV.out.cell 0
      have v1 : (wr.alloc (.cells (cellsV v) 24)).cell? ⟨wr.heap.size, 1, none⟩ = some (.int .i64 v.st) := EV.out.cell 1
      have c6 : (wr.alloc (.cells (cellsV v) 24)).cell? ⟨w.heap.size, 6, none⟩ = some (.int .u64 (a2 6)) := T8.out.1.cell 6
      clear EV R3 HB
      generalize wr.alloc (.cells (cellsV v) 24) = w8 at *
      by_cases hgt : x.bal < v.bal
      · have g1 : decide (x.bal < v.bal) = true := decide_eq_true hgt
        have g2 : decide (a2 6 < v.bal) = false := decide_eq_false (by have := lim.1; omega)
        clear hgt
        by_cases hs : v.st = 7
        · have s1 : (v.st == 7) = true := by simpa using hs
          by_cases hs2 : x.st = 7
          · have s2 : (x.st != 7) = false := by simpa using hs2
            have NX2 : Hid (¬ (v.st = 7 ∧ x.st ≠ 7)) := Lib.hid (fun h => h.2 hs2)
            clear hs hs2
            clear lim
            go_quiet (fail)
            go_wp2
            go_roundw
            case rel => exact ⟨k + 1, by omega, by go_num, by rw [NX.out, if_neg NX2.out]; simp, Lib.hid (below_drewN B8.out nq)⟩
            case measure => simp [intOf]; omega
          · have s2 : (x.st != 7) = true := by simpa using hs2
            have s3 : (v.bal != 0) = false := by have := (lim.2 hs).resolve_left hs2; simpa using this
            have NX2 : Hid (v.st = 7 ∧ x.st ≠ 7) := Lib.hid ⟨hs, hs2⟩
            clear hs hs2
            clear lim
            go_quiet (fail)
            go_wp2
            go_roundw
            case rel => exact ⟨k + 1, by omega, by go_num, by rw [NX.out, if_pos NX2.out], Lib.hid (below_drewN B8.out nq)⟩
            case measure => simp [intOf]; omega
        · have s1 : (v.st == 7) = false := by simpa using hs
          have NX2 : Hid (¬ (v.st = 7 ∧ x.st ≠ 7)) := Lib.hid (fun h => hs h.1)
          clear hs
          clear lim
          go_quiet (fail)
          go_wp2
          go_roundw
          case rel => exact ⟨k + 1, by omega, by go_num, by rw [NX.out, if_neg NX2.out]; simp, Lib.hid (below_drewN B8.out nq)⟩
          case measure => simp [intOf]; omega
      · have g1 : decide (x.bal < v.bal) = false := decide_eq_false hgt
        clear hgt
        by_cases hs : v.st = 7
        · have s1 : (v.st == 7) = true := by simpa using hs
          by_cases hs2 : x.st = 7
          · have s2 : (x.st != 7) = false := by simpa using hs2
            have NX2 : Hid (¬ (v.st = 7 ∧ x.st ≠ 7)) := Lib.hid (fun h => h.2 hs2)
            clear hs hs2
            clear lim
            go_quiet (fail)
            go_wp2
            go_roundw
            case rel => exact ⟨k + 1, by omega, by go_num, by rw [NX.out, if_neg NX2.out]; simp, Lib.hid (below_drewN B8.out nq)⟩
            case measure => simp [intOf]; omega
          · have s2 : (x.st != 7) = true := by simpa using hs2
            have s3 : (v.bal != 0) = false := by have := (lim.2 hs).resolve_left hs2; simpa using this
            have NX2 : Hid (v.st = 7 ∧ x.st ≠ 7) := Lib.hid ⟨hs, hs2⟩
            clear hs hs2
            clear lim
            go_quiet (fail)
            go_wp2
            go_roundw
            case rel => exact ⟨k + 1, by omega, by go_num, by rw [NX.out, if_pos NX2.out], Lib.hid (below_drewN B8.out nq)⟩
            case measure => simp [intOf]; omega
        · have s1 : (v.st == 7) = false := by simpa using hs
          have NX2 : Hid (¬ (v.st = 7 ∧ x.st ≠ 7)) := Lib.hid (fun h => hs h.1)
          clear hs
          clear lim
          go_quiet (fail)
          go_wp2
          go_roundw
          case rel => exact ⟨k + 1, by omega, by go_num, by rw [NX.out, if_neg NX2.out]; simp, Lib.hid (below_drewN B8.out nq)⟩
          case measure => simp [intOf]; omega
    · obtain rfl : k = n := by omega
      have hw := HI.out.2.1 k
      rw [new_self] at hw
      have hw2 := HI.out.2.2
      obtain ⟨N, hN⟩ : ∃ N, newTo l m k = N := ⟨_, rfl⟩
      rw [hN] at hb hw ⊢
      have T4 := Lib.hid (T3.out.next HB.out)
      have f1 : decide (N ≤ a2 17) = true := decide_eq_true (by omega)
      have f2 : decide (N ≤ (nd : Int)) = true := decide_eq_true (by omega)
      have hlt' : ¬ (k : Int) < (k : Int) := by omega
      clear HB T3 hlt hw hw2 hN
      go_wp2_with fail
      refine (HV.out _).mono ?_
      rintro e w9 ⟨rfl, b9⟩
      have T9 := Lib.hid (T4.out.next b9)
      have c17 : w9.cell? ⟨w.heap.size, 17, none⟩ = some (.int .i64 (a2 17)) := T9.out.1.cell 17
      clear b9 T4
      go_wp2
      go_ret
      exact ⟨rfl, T9.out.2⟩
theorem walk_MergeLimits (a0 : Option Addr) (len0 cap0 : Nat) (a1 : Option Addr) (len1 cap1 : Nat) (a2 : Nat → Int) (w : World) (w0 : IsVals w a0 len0 cap0) (w1 : IsPairs w a1 len1 cap1) (w2 : Fits a2) :
    Calls Try.prog 7 #[.slice a0 len0 cap0, .slice a1 len1 cap1, .agg (cellsOf a2)] w fun e w' => e = .returned (.bool true) ∧ Below w.heap.size w w' := by
  by_cases h : chk a2 ≠ 0 ∨ 60 < len0 ∨ 60 < len1
  · exact bail_MergeLimits a0 a1 len0 cap0 len1 cap1 a2 w h
  · have hc : chk a2 = 0 := by
      by_cases hc : chk a2 = 0
      · exact hc
      · exact absurd (.inl hc) h
    obtain ⟨-, -, l, hl, hf, hL⟩ := w0
    obtain ⟨-, -, q, hq, hQ⟩ := w1
    have hg := good_of_chk w2 hc
    subst hl hq
    exact good_MergeLimits a0 a1 cap0 cap1 l q a2 w hc hg.1 hg.2 (by omega) (by omega) hf hL hQ
end Go.Proofs.Ytnaheindlkehhaa
