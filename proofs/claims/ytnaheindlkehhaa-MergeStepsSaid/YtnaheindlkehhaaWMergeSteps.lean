/- The walk of MergeSteps (written by mklaws.py). -/
import Derived.Test.YtnaheindlkehhaaTwo
namespace Go.Proofs.Ytnaheindlkehhaa
open Go Go.RowKit Go.Deep
set_option linter.unusedVariables false
set_option linter.unusedSimpArgs false
set_option maxRecDepth 100000

set_option maxHeartbeats 800000 in
theorem bail_MergeSteps (a0 a1 : Option Addr) (len0 cap0 len1 cap1 : Nat) (a2 : Nat → Int) (w : World) (h : chk a2 ≠ 0 ∨ 60 < len0 ∨ 60 < len1) :
    Calls Try.prog 5 #[.slice a0 len0 cap0, .slice a1 len1 cap1, .agg (cellsOf a2)] w fun e w' => e = .returned (.bool true) ∧ Below w.heap.size w w' := by
  have T0 := Lib.hid (OneC.new w a2)
  have HK := Lib.hid (refCheck_any a2)
  have HV := Lib.hid alive_any
  by_cases hc : chk a2 = 0
  · rw [hc] at HK
    by_cases h1 : 60 < len0
    · have d1 : decide ((60 : Int) < (len0 : Int)) = true := decide_eq_true (by omega)
      clear h hc
      go_enter Try.func5, Try.ntmps5
      go_upto_region 1 with (fail)
      generalize w.alloc (.cells (cellsOf a2) 26) = W at *
      go_wp2_with (first | (refine wpList_load_row rfl 26 _ rfl w.heap.size rfl 26 _ (0, 0) _ T0.out.1 Try.underlying26 rfl info24 ?_))
      refine (HK.out _).mono ?_
      rintro e w1 ⟨rfl, b1⟩
      have T1 := Lib.hid (T0.out.next b1)
      clear b1 T0 HK
      go_wp2_with fail
      refine (HV.out _).mono ?_
      rintro e w2 ⟨rfl, b2⟩
      have T2 := Lib.hid (T1.out.next b2)
      clear b2 T1
      go_wp2
      go_ret
      exact ⟨rfl, T2.out.2⟩
    · have d1 : decide ((60 : Int) < (len0 : Int)) = false := decide_eq_false (by omega)
      have d2 : decide ((60 : Int) < (len1 : Int)) = true := decide_eq_true (by omega)
      clear h hc
      go_enter Try.func5, Try.ntmps5
      go_upto_region 1 with (fail)
      generalize w.alloc (.cells (cellsOf a2) 26) = W at *
      go_wp2_with (first | (refine wpList_load_row rfl 26 _ rfl w.heap.size rfl 26 _ (0, 0) _ T0.out.1 Try.underlying26 rfl info24 ?_))
      refine (HK.out _).mono ?_
      rintro e w1 ⟨rfl, b1⟩
      have T1 := Lib.hid (T0.out.next b1)
      clear b1 T0 HK
      go_wp2_with fail
      refine (HV.out _).mono ?_
      rintro e w2 ⟨rfl, b2⟩
      have T2 := Lib.hid (T1.out.next b2)
      clear b2 T1
      go_wp2
      go_ret
      exact ⟨rfl, T2.out.2⟩
  · have hn : (chk a2 != 0) = true := by simpa using hc
    generalize chk a2 = x at *
    clear hc h
    go_enter Try.func5, Try.ntmps5
    go_upto_region 1 with (fail)
    generalize w.alloc (.cells (cellsOf a2) 26) = W at *
    go_wp2_with (first | (refine wpList_load_row rfl 26 _ rfl w.heap.size rfl 26 _ (0, 0) _ T0.out.1 Try.underlying26 rfl info24 ?_))
    refine (HK.out _).mono ?_
    rintro e w1 ⟨rfl, b1⟩
    have T1 := Lib.hid (T0.out.next b1)
    clear b1 T0 HK
    go_wp2_with fail
    refine (HV.out _).mono ?_
    rintro e w2 ⟨rfl, b2⟩
    have T2 := Lib.hid (T1.out.next b2)
    clear b2 T1
    go_wp2
    go_ret
    exact ⟨rfl, T2.out.2⟩
set_option maxHeartbeats 1600000 in
theorem none_MergeSteps (a0 a1 : Option Addr) (cap0 cap1 : Nat) (l : List Val) (q : List (Int × Int)) (a2 : Nat → Int) (w : World) (hc : chk a2 = 0) (h6 : 0 ≤ a2 6) (h17 : 0 ≤ a2 17) (hl : l.length ≤ 60) (hql : q.length ≤ 60) (hf : ∀ v ∈ l, FitsV v) (hL : Lst w (fun _ => False) a0 l) (hq : Prs w (fun _ => False) a1 q) (hn0 : l.length = 0) :
    Calls Try.prog 5 #[.slice a0 l.length cap0, .slice a1 q.length cap1, .agg (cellsOf a2)] w fun e w' => e = .returned (.bool true) ∧ Below w.heap.size w w' := by
  have T0 := Lib.hid (OneC.new w a2)
  have HK := Lib.hid (refCheck_any a2)
  have HV := Lib.hid alive_any
  rw [hc] at HK
  have HS := Lib.hid (fun (cp cq : Nat) (a : Option Addr) (w : World) (hL : Lst w (fun _ => False) a l) (hq : Prs w (fun _ => False) a1 q) => step_any a a1 cp cq l q a2 w hL hq hf h17 hl hql)
  have HRS := Lib.hid (fun (cp cq : Nat) (w : World) (hL : Lst w (fun _ => False) a0 l) (hq : Prs w (fun _ => False) a1 q) => refstep_any a0 a1 cp cq l q a2 w hL hq hf h17 hl hql)
  have d1 : decide ((60 : Int) < (l.length : Int)) = false := decide_eq_false (by omega)
  have d2 : decide ((60 : Int) < (q.length : Int)) = false := decide_eq_false (by omega)
  have HL := Lib.hid (hL.more (T := fun i => w.heap.size ≤ i) (fun i h1 h2 => by omega))
  have HQ := Lib.hid hq
  obtain ⟨m, hm⟩ : ∃ m, stepL (a2 6) l (q.take (stepN a2 q)) = m := ⟨_, rfl⟩
  obtain ⟨D, hD⟩ : ∃ D, stepD (a2 6) l (q.take (stepN a2 q)) = D := ⟨_, rfl⟩
  have hml := stepL_len (a2 6) (q.take (stepN a2 q)) l
  have hDl := stepD_len (a2 6) (q.take (stepN a2 q)) l
  have hnn : (q.take (stepN a2 q)).length = stepN a2 q := by rw [List.length_take]; have : stepN a2 q ≤ q.length := Nat.min_le_right _ _; omega
  have hn60 : stepN a2 q ≤ 60 := by have : stepN a2 q ≤ q.length := Nat.min_le_right _ _; omega
  rw [hnn] at hDl
  rw [hm] at hml HS HRS
  rw [hD] at hDl HS HRS
  generalize stepN a2 q = nd at *
  have HEQ := Lib.hid (fun (a b : Option Addr) (cp cq : Nat) (w : World) (h : Lst w (fun _ => False) a m) (h2 : Lst w (fun _ => False) b m) => same_any (fun _ => False) (fun _ => False) a b cp cq m w h h2 (by omega))
  have HEB := Lib.hid (fun (a b : Option Addr) (cp cq : Nat) (w : World) (h : Bl w a D) (h2 : Bl w b D) => equal_bools a b cp cq nd D w h h2 hDl (by omega))
  have HEL := Lib.hid (fun (S T : Nat → Prop) (a b : Option Addr) (cp cq : Nat) (w : World) (h : Lst w S a l) (h2 : Lst w T b l) => same_any S T a b cp cq l w h h2 (by omega))
  have HLEN := Lib.hid (flat_len l)
  obtain ⟨j0, hj0, hz0, hs0, hby0⟩ := val_app
  obtain ⟨n, hn⟩ : ∃ n, l.length = n := ⟨_, rfl⟩
  obtain ⟨nq, hnq⟩ : ∃ nq, q.length = nq := ⟨_, rfl⟩
  rw [hml] at HEQ
  rw [hn] at hml HS HRS HEQ HEL HLEN d1 hn0 hl ⊢
  rw [hnq] at HS HRS d2 ⊢
  have HM := Lib.hid (And.intro hml (And.intro hDl hn))
  clear hc hf hL hq hn hnq hql hml hDl hm hD hnn
  have HN0 := Lib.hid hn0
  clear hn0
  go_enter Try.func5, Try.ntmps5
  go_upto_region 1 with (fail)
  generalize w.alloc (.cells (cellsOf a2) 26) = W at *
  go_wp2_with (first | (refine wpList_load_row rfl 26 _ rfl w.heap.size rfl 26 _ (0, 0) _ T0.out.1 Try.underlying26 rfl info24 ?_))
  refine (HK.out _).mono ?_
  rintro e w1 ⟨rfl, b1⟩
  have T1 := Lib.hid (T0.out.next b1)
  clear b1 T0 HK
  have HL1 : Hid (Lst w1 (fun _ => False) a0 l) := Lib.hid ((HL.out.below T1.out.2).more (fun _ _ h => h.elim))
  go_upto_region 4 with (at_builtin; refine wpList_append_src _ rfl (.tmp 27) (.tmp 28) 34 rfl w1.heap.size 24 j0 _ 7 56 Try.underlying34 hj0 hz0 hs0 hby0 (cellsV_size _) (by omega) (.slice (some ⟨w1.heap.size, 0, none⟩) 0 0) 0 [] rfl (owns_empty (Blk.new w1 _ _) (Nat.le_refl _)) a0 n cap0 (flat l) rfl (by rw [HLEN.out]) (fun h0 => lst_src HL1.out ((Below.refl _ _).alloc (Nat.le_refl _) _) (by rw [HM.out.2.2]; exact h0)) flat_mem (by unfold maxLen; omega) (by omega) (by simp) ?_; intro u2 w2 ho hg hv)
  have b2 : Below w1.heap.size w1 w2 := below_only ((Below.refl _ w1).alloc (Nat.le_refl _) _) (g := w1.heap.size) hg (by simp) (Nat.le_refl _)
  have ho' : w2.ownsRow w1.heap.size 24 7 u2 n (flat l) := by simpa using ho
  obtain ⟨ao, cpo, rfl, -, -⟩ := owns_slice (owns_base ho' (Nat.zero_le _))
  have T2 := Lib.hid (T1.out.next b2)
  have HO2 : Hid (Lst w2 (fun i => w2.heap.size ≤ i) ao l) := Lib.hid (by have := owns_lst (S := fun i => w2.heap.size ≤ i) (l := l) (by rw [HM.out.2.2]; exact owns_base ho' (Nat.zero_le _)) (fun i hi => by rw [HM.out.2.2] at hi; have := (ho'.lt i hi).2; omega); exact this)
  clear ho hg hv b2 ho' T1 HL1 hj0 hz0 hs0 hby0
  go_wp2_with (first | (refine wpList_load_row rfl 26 _ rfl w.heap.size rfl 26 _ (0, 0) _ T2.out.1 Try.underlying26 rfl info24 ?_))
  refine (HS.out cpo cap1 ao w2 (HO2.out.more (fun _ _ h => h.elim)) (HQ.out.below T2.out.2)).mono ?_
  rintro e w3 ⟨v, g2, rfl, ho, hB, -, -, b3⟩
  have T3 := Lib.hid (T2.out.next b3)
  obtain ⟨a3, cp3, rfl, -, -⟩ := owns_slice (owns_base ho (Nat.zero_le _))
  have HL3 : Hid (Lst w3 (fun _ => False) a3 m) := Lib.hid (by have := owns_lst (S := fun _ => False) (l := m) (by rw [HM.out.1]; exact owns_base ho (Nat.zero_le _)) (fun _ _ h => h); exact this)
  have B3 := Lib.hid (Bl.of_blk hB)
  have HO3 := Lib.hid (HO2.out.below b3)
  clear b3 T2 HS ho hB HO2
  go_wp2_with (first | (refine wpList_load_row rfl 26 _ rfl w.heap.size rfl 26 _ (0, 0) _ T3.out.1 Try.underlying26 rfl info24 ?_))
  refine (HRS.out cap0 cap1 w3 ((HL.out.below T3.out.2).more (fun _ _ h => h.elim)) (HQ.out.below T3.out.2)).mono ?_
  rintro e w4 ⟨u4, v4, rfl, ho4, hb4, b4⟩
  have T4 := Lib.hid (T3.out.next b4)
  obtain ⟨a4, cp4, rfl, -, -⟩ := owns_slice (owns_base ho4 (Nat.zero_le _))
  have HL4 : Hid (Lst w4 (fun _ => False) a4 m) := Lib.hid (by have := owns_lst (S := fun _ => False) (l := m) (by rw [HM.out.1]; exact owns_base ho4 (Nat.zero_le _)) (fun _ _ h => h); exact this)
  obtain ⟨ab, cb, rfl, hbl⟩ := Bl.of_owns hb4 HM.out.2.1
  have HG4 := Lib.hid (And.intro (HL3.out.below b4) (And.intro (B3.out.below b4) (And.intro hbl (HO3.out.below b4))))
  clear b4 T3 HRS ho4 hb4 hbl HL3 B3 HO3
  go_wp2_with fail
  refine (HEQ.out a3 a4 cp3 cp4 w4 HG4.out.1 HL4.out).mono ?_
  rintro e w5 ⟨rfl, n5, rfl⟩
  go_wp2_with fail
  refine (HEB.out _ ab _ cb (w4.drewN n5) HG4.out.2.1 HG4.out.2.2.1).mono ?_
  rintro e w6 ⟨rfl, n6, rfl⟩
  have T6 : Hid (OneC w ((w4.drewN n5).drewN n6) a2) := Lib.hid ⟨T4.out.1, below_drewN (below_drewN T4.out.2 n5) n6⟩
  have HO6 : Hid (Lst ((w4.drewN n5).drewN n6) (fun i => w2.heap.size ≤ i) ao l) := Lib.hid HG4.out.2.2.2
  clear T4 HG4 HL4 HEQ HEB
  generalize (w4.drewN n5).drewN n6 = w7 at *
  go_wp2_with fail
  go_loopw [56] (fun s56 wr => ∃ k : Nat, k ≤ n ∧ s56 = .int .i64 k ∧ wr = w7) (fun s56 _ => n - (intOf s56).toNat)
  case atStart => exact ⟨0, by omega, rfl, rfl⟩
  case round =>
    obtain ⟨k, hk, rfl, rfl⟩ := hrel
    have hlt : ¬ (k : Int) < (n : Int) := by have := HN0.out; omega
    go_wp2_with fail
    refine (HV.out _).mono ?_
    rintro e w8 ⟨rfl, b8⟩
    have T8 := Lib.hid (T6.out.next b8)
    have HO8 := Lib.hid (HO6.out.below b8)
    clear b8 T6 HO6
    go_wp2_with fail
    refine (HEL.out _ _ ao a0 cpo cap0 w8 HO8.out (HL.out.below T8.out.2)).mono ?_
    rintro e w9 ⟨rfl, n9, rfl⟩
    go_wp2_with fail
    go_ret
    exact ⟨rfl, below_drewN T8.out.2 n9⟩
set_option maxHeartbeats 1600000 in
theorem some_MergeSteps (a0 a1 : Option Addr) (cap0 cap1 : Nat) (l : List Val) (q : List (Int × Int)) (a2 : Nat → Int) (w : World) (hc : chk a2 = 0) (h6 : 0 ≤ a2 6) (h17 : 0 ≤ a2 17) (hl : l.length ≤ 60) (hql : q.length ≤ 60) (hf : ∀ v ∈ l, FitsV v) (hL : Lst w (fun _ => False) a0 l) (hq : Prs w (fun _ => False) a1 q) (hn0 : 0 < l.length) :
    Calls Try.prog 5 #[.slice a0 l.length cap0, .slice a1 q.length cap1, .agg (cellsOf a2)] w fun e w' => e = .returned (.bool true) ∧ Below w.heap.size w w' := by
  have T0 := Lib.hid (OneC.new w a2)
  have HK := Lib.hid (refCheck_any a2)
  have HV := Lib.hid alive_any
  rw [hc] at HK
  have HS := Lib.hid (fun (cp cq : Nat) (a : Option Addr) (w : World) (hL : Lst w (fun _ => False) a l) (hq : Prs w (fun _ => False) a1 q) => step_any a a1 cp cq l q a2 w hL hq hf h17 hl hql)
  have HRS := Lib.hid (fun (cp cq : Nat) (w : World) (hL : Lst w (fun _ => False) a0 l) (hq : Prs w (fun _ => False) a1 q) => refstep_any a0 a1 cp cq l q a2 w hL hq hf h17 hl hql)
  have d1 : decide ((60 : Int) < (l.length : Int)) = false := decide_eq_false (by omega)
  have d2 : decide ((60 : Int) < (q.length : Int)) = false := decide_eq_false (by omega)
  have HL := Lib.hid (hL.more (T := fun i => w.heap.size ≤ i) (fun i h1 h2 => by omega))
  have HQ := Lib.hid hq
  obtain ⟨m, hm⟩ : ∃ m, stepL (a2 6) l (q.take (stepN a2 q)) = m := ⟨_, rfl⟩
  obtain ⟨D, hD⟩ : ∃ D, stepD (a2 6) l (q.take (stepN a2 q)) = D := ⟨_, rfl⟩
  have hml := stepL_len (a2 6) (q.take (stepN a2 q)) l
  have hDl := stepD_len (a2 6) (q.take (stepN a2 q)) l
  have hnn : (q.take (stepN a2 q)).length = stepN a2 q := by rw [List.length_take]; have : stepN a2 q ≤ q.length := Nat.min_le_right _ _; omega
  have hn60 : stepN a2 q ≤ 60 := by have : stepN a2 q ≤ q.length := Nat.min_le_right _ _; omega
  rw [hnn] at hDl
  rw [hm] at hml HS HRS
  rw [hD] at hDl HS HRS
  generalize stepN a2 q = nd at *
  have HEQ := Lib.hid (fun (a b : Option Addr) (cp cq : Nat) (w : World) (h : Lst w (fun _ => False) a m) (h2 : Lst w (fun _ => False) b m) => same_any (fun _ => False) (fun _ => False) a b cp cq m w h h2 (by omega))
  have HEB := Lib.hid (fun (a b : Option Addr) (cp cq : Nat) (w : World) (h : Bl w a D) (h2 : Bl w b D) => equal_bools a b cp cq nd D w h h2 hDl (by omega))
  have HEL := Lib.hid (fun (S T : Nat → Prop) (a b : Option Addr) (cp cq : Nat) (w : World) (h : Lst w S a l) (h2 : Lst w T b l) => same_any S T a b cp cq l w h h2 (by omega))
  have HLEN := Lib.hid (flat_len l)
  obtain ⟨j0, hj0, hz0, hs0, hby0⟩ := val_app
  obtain ⟨n, hn⟩ : ∃ n, l.length = n := ⟨_, rfl⟩
  obtain ⟨nq, hnq⟩ : ∃ nq, q.length = nq := ⟨_, rfl⟩
  rw [hml] at HEQ
  rw [hn] at hml HS HRS HEQ HEL HLEN d1 hn0 hl ⊢
  rw [hnq] at HS HRS d2 ⊢
  have HM := Lib.hid (And.intro hml (And.intro hDl hn))
  clear hc hf hL hq hn hnq hql hml hDl hm hD hnn
  go_enter Try.func5, Try.ntmps5
  go_upto_region 1 with (fail)
  generalize w.alloc (.cells (cellsOf a2) 26) = W at *
  go_wp2_with (first | (refine wpList_load_row rfl 26 _ rfl w.heap.size rfl 26 _ (0, 0) _ T0.out.1 Try.underlying26 rfl info24 ?_))
  refine (HK.out _).mono ?_
  rintro e w1 ⟨rfl, b1⟩
  have T1 := Lib.hid (T0.out.next b1)
  clear b1 T0 HK
  have HL1 : Hid (Lst w1 (fun _ => False) a0 l) := Lib.hid ((HL.out.below T1.out.2).more (fun _ _ h => h.elim))
  go_upto_region 4 with (at_builtin; refine wpList_append_src _ rfl (.tmp 27) (.tmp 28) 34 rfl w1.heap.size 24 j0 _ 7 56 Try.underlying34 hj0 hz0 hs0 hby0 (cellsV_size _) (by omega) (.slice (some ⟨w1.heap.size, 0, none⟩) 0 0) 0 [] rfl (owns_empty (Blk.new w1 _ _) (Nat.le_refl _)) a0 n cap0 (flat l) rfl (by rw [HLEN.out]) (fun h0 => lst_src HL1.out ((Below.refl _ _).alloc (Nat.le_refl _) _) (by rw [HM.out.2.2]; exact h0)) flat_mem (by unfold maxLen; omega) (by omega) (by simp) ?_; intro u2 w2 ho hg hv)
  have b2 : Below w1.heap.size w1 w2 := below_only ((Below.refl _ w1).alloc (Nat.le_refl _) _) (g := w1.heap.size) hg (by simp) (Nat.le_refl _)
  have ho' : w2.ownsRow w1.heap.size 24 7 u2 n (flat l) := by simpa using ho
  obtain ⟨ao, cpo, rfl, -, -⟩ := owns_slice (owns_base ho' (Nat.zero_le _))
  have T2 := Lib.hid (T1.out.next b2)
  have HO2 : Hid (Lst w2 (fun i => w2.heap.size ≤ i) ao l) := Lib.hid (by have := owns_lst (S := fun i => w2.heap.size ≤ i) (l := l) (by rw [HM.out.2.2]; exact owns_base ho' (Nat.zero_le _)) (fun i hi => by rw [HM.out.2.2] at hi; have := (ho'.lt i hi).2; omega); exact this)
  clear ho hg hv b2 ho' T1 HL1 hj0 hz0 hs0 hby0
  go_wp2_with (first | (refine wpList_load_row rfl 26 _ rfl w.heap.size rfl 26 _ (0, 0) _ T2.out.1 Try.underlying26 rfl info24 ?_))
  refine (HS.out cpo cap1 ao w2 (HO2.out.more (fun _ _ h => h.elim)) (HQ.out.below T2.out.2)).mono ?_
  rintro e w3 ⟨v, g2, rfl, ho, hB, -, -, b3⟩
  have T3 := Lib.hid (T2.out.next b3)
  obtain ⟨g, cp3, rfl, hg, hgl, -⟩ := owns_rows ho HM.out.1 hn0
  have HL3 : Hid (Lst w3 (fun _ => False) (some ⟨g, 0, none⟩) m) := Lib.hid (by have := owns_lst (S := fun _ => False) (l := m) (by rw [HM.out.1]; exact owns_base ho (Nat.zero_le _)) (fun _ _ h => h); exact this)
  have B3 := Lib.hid (Bl.of_blk hB)
  have HO3 := Lib.hid (HO2.out.below b3)
  have G3 : Hid (Bals w3 g n ∧ w2.heap.size ≤ g ∧ w.heap.size ≤ g) := Lib.hid ⟨Bals.of_owns (owns_base ho (Nat.zero_le _)) HM.out.1, hg, Nat.le_trans T2.out.2.size hg⟩
  clear b3 T2 HS ho hB HO2 hg hgl
  go_wp2_with (first | (refine wpList_load_row rfl 26 _ rfl w.heap.size rfl 26 _ (0, 0) _ T3.out.1 Try.underlying26 rfl info24 ?_))
  refine (HRS.out cap0 cap1 w3 ((HL.out.below T3.out.2).more (fun _ _ h => h.elim)) (HQ.out.below T3.out.2)).mono ?_
  rintro e w4 ⟨u4, v4, rfl, ho4, hb4, b4⟩
  have T4 := Lib.hid (T3.out.next b4)
  obtain ⟨a4, cp4, rfl, -, -⟩ := owns_slice (owns_base ho4 (Nat.zero_le _))
  have HL4 : Hid (Lst w4 (fun _ => False) a4 m) := Lib.hid (by have := owns_lst (S := fun _ => False) (l := m) (by rw [HM.out.1]; exact owns_base ho4 (Nat.zero_le _)) (fun _ _ h => h); exact this)
  obtain ⟨ab, cb, rfl, hbl⟩ := Bl.of_owns hb4 HM.out.2.1
  have HG4 := Lib.hid (And.intro (HL3.out.below b4) (And.intro (B3.out.below b4) (And.intro hbl (HO3.out.below b4))))
  have G4 : Hid (Bals w4 g n ∧ w2.heap.size ≤ g ∧ w.heap.size ≤ g) := Lib.hid ⟨G3.out.1.below b4, G3.out.2⟩
  clear G3
  clear b4 T3 HRS ho4 hb4 hbl HL3 B3 HO3
  go_wp2_with fail
  refine (HEQ.out (some ⟨g, 0, none⟩) a4 cp3 cp4 w4 HG4.out.1 HL4.out).mono ?_
  rintro e w5 ⟨rfl, n5, rfl⟩
  go_wp2_with fail
  refine (HEB.out _ ab _ cb (w4.drewN n5) HG4.out.2.1 HG4.out.2.2.1).mono ?_
  rintro e w6 ⟨rfl, n6, rfl⟩
  have T6 : Hid (OneC w ((w4.drewN n5).drewN n6) a2) := Lib.hid ⟨T4.out.1, below_drewN (below_drewN T4.out.2 n5) n6⟩
  have HO6 : Hid (Lst ((w4.drewN n5).drewN n6) (fun i => w2.heap.size ≤ i) ao l) := Lib.hid HG4.out.2.2.2
  have G6 : Hid (Bals ((w4.drewN n5).drewN n6) g n ∧ w2.heap.size ≤ g ∧ w.heap.size ≤ g) := Lib.hid G4.out
  clear G4
  clear T4 HG4 HL4 HEQ HEB
  generalize (w4.drewN n5).drewN n6 = w7 at *
  go_wp2_with fail
  go_loopw [56] (fun s56 wr => ∃ k : Nat, k ≤ n ∧ s56 = .int .i64 k ∧ Hid (Bals wr g n ∧ Kept (fun i => i = g) w7 wr)) (fun s56 _ => n - (intOf s56).toNat)
  case atStart => exact ⟨0, by omega, rfl, Lib.hid ⟨G6.out.1, Kept.refl _ _⟩⟩
  case round =>
    obtain ⟨k, hk, rfl, HK⟩ := hrel
    by_cases hlt : k < n
    · obtain ⟨x, z1, z2⟩ := HK.out.1.at hlt
      obtain ⟨y, hy⟩ : ∃ y, IntKind.u64.wrap (x + 1) = y := ⟨_, rfl⟩
      have k1 : ¬ (k : Int) < 0 := by omega
      have k2 : ¬ (n : Int) ≤ (k : Int) := by omega
      have k3 : (k : Int) < (n : Int) := by omega
      go_wp2_with fail
      have HK2 : Hid (Bals (wr.setCell ⟨g, k * 7, none⟩ (.int .u64 y)) g n ∧ Kept (fun i => i = g) w7 (wr.setCell ⟨g, k * 7, none⟩ (.int .u64 y))) := Lib.hid ⟨HK.out.1.set k y, HK.out.2.setCell (.inl rfl) _⟩
      clear HK z1 z2
      generalize wr.setCell ⟨g, k * 7, none⟩ (.int .u64 y) = w8 at *
      go_wp2
      go_roundw
      case rel => exact ⟨k + 1, by omega, by go_num, HK2⟩
      case measure => simp [intOf]; omega
    · have hlt1 : ¬ (k : Int) < (n : Int) := by omega
      have hgs := G6.out.2
      have TR : Hid (Below w.heap.size w wr) := Lib.hid (Kept.below T6.out.2 HK.out.2 (fun i hi => by rw [hi]; exact hgs.2) T6.out.2.size)
      have HOR : Hid (Lst wr (fun i => w2.heap.size ≤ i) ao l) := Lib.hid (HO6.out.same HK.out.2.size (fun b hb hn => HK.out.2.block b hb (fun e => hn (by rw [e]; exact hgs.1))))
      have HLR : Hid (Lst wr (fun i => w.heap.size ≤ i) a0 l) := Lib.hid (HL.out.below TR.out)
      clear T6 HO6 HK G6 hgs
      go_wp2_with fail
      refine (HV.out _).mono ?_
      rintro e w8 ⟨rfl, b8⟩
      have T8 := Lib.hid (TR.out.trans (b8.mono TR.out.size))
      have HO8 := Lib.hid (HOR.out.below b8)
      have HL8 := Lib.hid (HLR.out.below b8)
      clear b8 TR HOR HLR
      go_wp2_with fail
      refine (HEL.out _ _ ao a0 cpo cap0 w8 HO8.out HL8.out).mono ?_
      rintro e w9 ⟨rfl, n9, rfl⟩
      go_wp2_with fail
      go_ret
      exact ⟨rfl, below_drewN T8.out n9⟩
theorem walk_MergeSteps (a0 : Option Addr) (len0 cap0 : Nat) (a1 : Option Addr) (len1 cap1 : Nat) (a2 : Nat → Int) (w : World) (w0 : IsVals w a0 len0 cap0) (w1 : IsPairs w a1 len1 cap1) (w2 : Fits a2) :
    Calls Try.prog 5 #[.slice a0 len0 cap0, .slice a1 len1 cap1, .agg (cellsOf a2)] w fun e w' => e = .returned (.bool true) ∧ Below w.heap.size w w' := by
  by_cases h : chk a2 ≠ 0 ∨ 60 < len0 ∨ 60 < len1
  · exact bail_MergeSteps a0 a1 len0 cap0 len1 cap1 a2 w h
  · have hc : chk a2 = 0 := by
      by_cases hc : chk a2 = 0
      · exact hc
      · exact absurd (.inl hc) h
    obtain ⟨-, -, l, hl, hf, hL⟩ := w0
    obtain ⟨-, -, q, hq, hQ⟩ := w1
    have hg := good_of_chk w2 hc
    subst hl hq
    by_cases h0 : l.length = 0
    · exact none_MergeSteps a0 a1 cap0 cap1 l q a2 w hc hg.1 hg.2 (by omega) (by omega) hf hL hQ h0
    · exact some_MergeSteps a0 a1 cap0 cap1 l q a2 w hc hg.1 hg.2 (by omega) (by omega) hf hL hQ (by omega)
end Go.Proofs.Ytnaheindlkehhaa
