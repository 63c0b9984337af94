/- For all pairs and classes, Order answers the indices of the reference; both classes together hold each index at most once. -/
import Derived.Test.YthnhpmeacboljaaOwnI
namespace Go.Proofs.Ythnhpmeacboljaa
open Go Go.RowKit Go.Deep
set_option linter.unusedVariables false
set_option linter.unusedSimpArgs false
set_option maxRecDepth 100000

set_option maxHeartbeats 6400000 in
theorem walk_HistoryOrders (a0 : Option Addr) (len0 cap0 : Nat) (a1 : Int) (w : World) (w0 : IsPqs w a0 len0 cap0) (w1 : (Lit.int .i64 a1).wf = true) :
    Calls Try.prog 5 #[.slice a0 len0 cap0, .int .i64 a1] w fun e w' => e = .returned (.bool true) ∧ Below w.heap.size w w' := by
  obtain ⟨L, hl, -, -, hp⟩ := pairs_of w0
  have HB := Lib.hid (build_law a0 len0 cap0 L w hp hl)
  have HL := Lib.hid hl
  have HV := Lib.hid alive_any
  clear w0 hp hl w1
  go_enter Try.func5, Try.ntmps5
  go_wp2_with (fail)
  refine HB.out.mono ?_
  clear HB
  rintro e x1 (⟨hn, hf, b, rb, rfl, hb⟩ | ⟨rfl, hb⟩)
  · have H1 := Lib.hid hb.two
    have HN : Hid (L.length ≤ 60) := Lib.hid (by rw [HL.out]; exact hn)
    have HOD : Hid ((stL L).od.length ≤ 1000000) := Lib.hid (by have := od_le HN.out; omega)
    have HTW := Lib.hid (two_nodup L)
    have HL0 : Hid ((ofCls (stL L) 0 ++ ofCls (stL L) 1).length ≤ 60) := Lib.hid (by have := HTW.out.2; have := HN.out; omega)
    clear hb hn hf
    go_wp2_with (fail)
    obtain ⟨T, hT⟩ := H1.out.lg
    obtain ⟨n1, hn1⟩ : ∃ n1, x1.heap.size = n1 := ⟨_, rfl⟩
    have HN1 := Lib.hid hn1
    refine (order_any b T _ _ 0 x1 hT HOD.out).mono ?_
    rintro e x2 ⟨p1, c1, rfl, ho, hb⟩
    rw [hn1] at ho hb
    have O1 := Lib.hid ho
    have B2 := Lib.hid hb
    have H2 := Lib.hid (H1.out.below (by rw [hn1]; exact hb))
    clear ho hb hT hn1 T
    go_wp2_with (fail)
    obtain ⟨T, hT⟩ := H2.out.lg
    refine (order_any b T _ _ 1 x2 hT HOD.out).mono ?_
    rintro e x3 ⟨p2, c2, rfl, ho, hb⟩
    have O2 := Lib.hid ho.at
    have O3 := Lib.hid (O1.out.below hb)
    have B3 : Hid (Below n1 x1 x3) := Lib.hid (B2.out.trans (hb.mono (by rw [← HN1.out]; exact B2.out.size)))
    clear ho hb hT T H2 O1 B2
    clear x2
    obtain ⟨q1, hq1⟩ : ∃ q1, (ofCls (stL L) 0).length = q1 := ⟨_, rfl⟩
    obtain ⟨q2, hq2⟩ : ∃ q2, (ofCls (stL L) 1).length = q2 := ⟨_, rfl⟩
    have HQ := Lib.hid (And.intro hq1 hq2)
    rw [hq1] at O3 ⊢
    rw [hq2]
    clear hq1 hq2
    obtain ⟨A, hA⟩ : ∃ A, ofCls (stL L) 0 ++ ofCls (stL L) 1 = A := ⟨_, rfl⟩
    obtain ⟨n, hn⟩ : ∃ n, A.length = n := ⟨_, rfl⟩
    have HA := Lib.hid hA
    have HAN := Lib.hid hn
    clear hA hn
    go_wp2_with (first | (refine arm_appM O3.out O2.out HQ.out.2 rfl _ _ rfl rfl rfl (by have := HL0.out; rw [List.length_append] at this; have := HQ.out; omega) (by rw [← HN1.out]; exact B3.out.size) ?_; intro v' x4 ho hg hs; clear hs; rw [HA.out] at ho; obtain ⟨pa, ca, hvs, -, -⟩ := ho.slice; rw [HAN.out] at hvs; subst hvs))
    have O4 := Lib.hid ho
    have B4 : Hid (Below n1 x1 x4) := Lib.hid (B3.out.grown hg (by rw [← HN1.out]; exact B3.out.size) (fun j hj => O3.out.ge hj))
    have HND : Hid A.Nodup := Lib.hid (by rw [← HA.out]; exact HTW.out.1)
    have HLE : Hid (n ≤ len0 ∧ n ≤ 60) := Lib.hid (by
      have h1 := HTW.out.2
      have h2 := HL0.out
      rw [HA.out, HAN.out] at h1 h2
      rw [← HL.out]
      exact ⟨h1, h2⟩)
    clear ho hg O2 O3 B3 HQ HTW
    clear x3
    refine (sort_own n1 (.slice pa n ca) A x4 O4.out (by rw [HAN.out]; have := HLE.out.2; omega)).mono ?_
    rintro e x5 ⟨rfl, ho, hk⟩
    have O5 : Hid (OwnI x5 n1 (.slice pa (srt A).length ca) (srt A)) := Lib.hid (by rw [srt_len, HAN.out]; exact ho)
    have B5 : Hid (Below n1 x1 x5) := Lib.hid (Kept.below B4.out hk (fun j hj => O4.out.ge hj) (by rw [← HN1.out]; exact B4.out.size))
    clear ho hk O4 B4
    clear x4
    have hn60 : n ≤ 60 := HLE.out.2
    go_wp2_with (fail)
    go_loopw [8] (fun s8 wr => ∃ k m : Nat, 1 ≤ k ∧ k ≤ n + 1 ∧ s8 = .int .i64 k ∧ wr = x5.drewN m) (fun s8 _ => n + 1 - (intOf s8).toNat)
    case atStart => exact ⟨1, 0, by omega, by omega, rfl, rfl⟩
    case round =>
      obtain ⟨k, m, hk1, hk2, rfl, rfl⟩ := hrel
      by_cases hlt : k < n
      · obtain ⟨x, hx⟩ : ∃ x, (srt A)[k]? = some x := ⟨_, List.getElem?_eq_getElem (by rw [srt_len, HAN.out]; exact hlt)⟩
        obtain ⟨y, hy⟩ : ∃ y, (srt A)[k - 1]? = some y := ⟨_, List.getElem?_eq_getElem (by rw [srt_len, HAN.out]; omega)⟩
        obtain ⟨g, hg, hcx⟩ := O5.out.cell hx
        obtain ⟨g', hg', hcy⟩ := O5.out.cell hy
        rw [hg] at hg'
        injection hg' with hg'
        injection hg' with hg' _
        subst hg'
        have hne := srt_ne HND.out hx hy (by omega)
        subst hg
        have hki : (0 : Int) ≤ (k : Int) := by omega
        have hkn : (k : Int) < (n : Int) := by omega
        have hji : (0 : Int) ≤ (k : Int) - 1 := by omega
        have hjn : (k : Int) - 1 < (n : Int) := by omega
        have hb1 : ¬ (k : Int) < 0 := by omega
        have hb2 : ¬ (n : Int) ≤ (k : Int) := by omega
        have hb3 : ¬ (k : Int) - 1 < 0 := by omega
        have hb4 : ¬ (n : Int) ≤ (k : Int) - 1 := by omega
        have hb5 : wrap64 ((k : Int) - 1) = (k : Int) - 1 := by unfold wrap64; omega
        clear hx hy
        go_wp2_with (fail)
        try simp only [Act.put]
        refine wp_region_class (fun w' => ∃ q, w' = x5.drewN q) (by kernel_rfl) (by kernel_rfl) ⟨m + 1, rfl⟩ ?_
        iterate 10 (go_big_quiet_step ((intros; rfl)))
        refine wpQuiet_nil ?_
        intro _ hw'
        obtain ⟨q, hw''⟩ := hw'
        subst hw''
        go_wp2_with (fail)
        go_roundw
        case rel => exact ⟨k + 1, q, by omega, by omega, by go_num, rfl⟩
        case measure => simp [intOf]; omega
      · have hlt2 : ¬ (k : Int) < (n : Int) := by omega
        have hlt3 : (n : Int) ≤ (k : Int) := by omega
        have H6 := Lib.hid (H1.out.below (w' := x5.drewN m) (by rw [HN1.out]; exact below_drewN B5.out m))
        have HLD : Hid (decide ((n : Int) ≤ (len0 : Int)) = true ∧ decide (n ≤ len0) = true) := Lib.hid ⟨decide_eq_true (by have := HLE.out.1; omega), decide_eq_true HLE.out.1⟩
        clear O5 B5 HND
        generalize x5.drewN m = x6 at *
        go_wp2_with (fail)
        refine (HV.out x6).mono ?_
        rintro e x7 ⟨rfl, hb⟩
        have H7 := Lib.hid (H6.out.below hb)
        clear hb H6
        clear x6
        go_wp2_with (fail)
        obtain ⟨T, hT⟩ := H7.out.lg
        refine (order_any b T _ _ a1 x7 hT HOD.out).mono ?_
        rintro e x8 ⟨p3, c3, rfl, ho, hb⟩
        have I8 := Lib.hid ho.at
        have H8 := Lib.hid (H7.out.below hb)
        clear ho hb hT H7 T
        clear x7
        go_wp2_with (fail)
        refine (reforder_any rb L a1 x8 H8.out.rl (by have := HN.out; omega)).mono ?_
        rintro e x9 ⟨p4, c4, rfl, ho, hb⟩
        have I9 := Lib.hid ho.at
        have I8' := Lib.hid (I8.out.below hb)
        have H9 := Lib.hid (H8.out.below hb)
        have HCL : Hid ((ofCls (stL L) a1).length ≤ 1000000) := Lib.hid (by
          have h1 := List.length_filter_le (clsIs (stL L) a1) (stL L).od
          have := HOD.out
          unfold ofCls
          omega)
        clear ho hb H8 I8
        clear x8
        go_wp2_with (fail)
        refine (equal_any I8'.out I9.out rfl rfl (by have := HCL.out; omega) (by have := HCL.out; omega)).mono ?_
        rintro e x10 ⟨rfl, q, rfl⟩
        have hd : decide (ofCls (stL L) a1 = ofCls (stL L) a1) = true := by simp
        rw [hd]
        have B10 : Hid (Below w.heap.size w (x9.drewN q)) := Lib.hid (below_drewN H9.out.bel q)
        have d1 := HLD.out.1
        have d2 := HLD.out.2
        clear hd I8' I9 H9
        generalize x9.drewN q = x11 at *
        go_wp2_with (fail)
        go_ret
        exact ⟨rfl, B10.out⟩
  · have B1 := Lib.hid hb
    clear hb
    go_wp2_with (fail)
    refine (HV.out x1).mono ?_
    rintro e x2 ⟨rfl, hb⟩
    have B2 := Lib.hid (B1.out.trans (hb.mono B1.out.size))
    clear hb B1
    go_wp2_with (fail)
    go_ret
    exact ⟨rfl, B2.out⟩
end Go.Proofs.Ythnhpmeacboljaa
