/- Rings of int: Push. -/
import Derived.Test.YtcjohlbglbcglaaGrowInt
namespace Go.Proofs.Ytcjohlbglbcglaa
open Go.RowKit
set_option linter.unusedVariables false
set_option maxRecDepth 100000

theorem ri_push_none (w : World) (a : Option Addr) (len cap : Nat) (hl : len ≤ 9223372036854775807) : Calls Try.prog 20 #[.pointer none, .slice a len cap] w fun e w' => e = .returned (.int .i64 0) ∧ w = w' := by
  by_cases h : (0 : Int) < (len : Int)
  · go_enter Try.func20, Try.ntmps20
    go_wp2_with fail
    refine (ri_free_nil _).mono ?_
    rintro e w' ⟨rfl, rfl⟩
    go_wp2
    go_ret
    exact ⟨rfl, rfl⟩
  · obtain rfl : len = 0 := by omega
    go_enter Try.func20, Try.ntmps20
    go_wp2_with fail
    refine (ri_free_nil _).mono ?_
    rintro e w' ⟨rfl, rfl⟩
    go_wp2
    go_ret
    exact ⟨rfl, rfl⟩
/-- Nothing is appended. -/
theorem ri_push_zero (b size c : Nat) (w : World) (a : Option Addr) (len cap : Nat) (hl : len ≤ 9223372036854775807) (h0 : w.cell? ⟨b, 0, none⟩ = some (.int .i64 size)) (h3 : w.cell? ⟨b, 3, none⟩ = some (.int .i64 c)) (hs : size ≤ 1048576) (hc : c ≤ size) (hz : len = 0 ∨ c = size) :
    Calls Try.prog 20 #[.pointer (some ⟨b, 0, none⟩), .slice a len cap] w fun e w' => e = .returned (.int .i64 0) ∧ ∃ m, w' = w.drewN m := by
  obtain ⟨d, hd⟩ : ∃ d : Nat, size - c = d := ⟨_, rfl⟩
  have hf : ∀ W : World, Hid (W = w) → Calls Try.prog 29 #[.pointer (some ⟨b, 0, none⟩)] W fun e w' => e = .returned (.int .i64 d) ∧ ∃ m, w' = W.drewN m := fun W hW => by
    have hW := hW.out
    subst hW
    rw [← hd]
    exact ri_free_any b size c _ h0 h3 hs hc
  have HF := Lib.hid hf
  clear hf h0 h3
  by_cases h : (d : Int) < (len : Int)
  · obtain rfl : d = 0 := by omega
    clear hd
    go_enter Try.func20, Try.ntmps20
    go_wp2_with fail
    refine (HF.out _ (Lib.hid rfl)).mono ?_
    rintro e w' ⟨rfl, m, rfl⟩
    go_wp2
    go_ret
    exact ⟨rfl, _, rfl⟩
  · obtain rfl : len = 0 := by omega
    clear hd
    go_enter Try.func20, Try.ntmps20
    go_wp2_with fail
    refine (HF.out _ (Lib.hid rfl)).mono ?_
    rintro e w' ⟨rfl, m, rfl⟩
    go_wp2
    go_ret
    exact ⟨rfl, _, rfl⟩

theorem ri_push_some (b size c m len cap : Nat) (go : Option Nat) (ad : Addr) (F cs : List Value) (w : World) (hi : RingAt 51 3 1 w b go size c F) (hsrc : Src w (Foot b go) (some ad) len 1 cs)
    (hl : len ≤ cap) (hcap : cap ≤ 9223372036854775807) (hm : 1 ≤ m) (hm1 : m ≤ len) (hm2 : c + m ≤ size) (hm3 : m = len ∨ c + m = size) :
    Calls Try.prog 20 #[.pointer (some ⟨b, 0, none⟩), .slice (some ad) len cap] w fun e w' => e = .returned (.int .i64 m) ∧
      ∃ go', RingAt 51 3 1 w' b go' size (c + m) (F ++ cs.take m) ∧ Moved w go go' ∧ Kept (Foot b go) w w' := by
  obtain ⟨c0, c3⟩ := hi.cells
  obtain ⟨_, hs1, hs⟩ := hi.size_le
  obtain ⟨d, hd⟩ : ∃ d : Nat, size - c = d := ⟨_, rfl⟩
  have hf : ∀ W : World, Hid (W = w) → Calls Try.prog 29 #[.pointer (some ⟨b, 0, none⟩)] W fun e w' => e = .returned (.int .i64 d) ∧ ∃ m, w' = W.drewN m := fun W hW => by
    have hW := hW.out
    subst hW
    rw [← hd]
    exact ri_free_any b size c _ c0 c3 hs (by omega)
  have HF := Lib.hid hf
  have HI := Lib.hid hi
  have HSrc := Lib.hid hsrc
  have hmz : ((m : Int) == 0) = false := by simp; omega
  have c3' : ∀ q, (w.drewN q).cell? ⟨b, 3, none⟩ = some (.int .i64 c) := fun q => c3
  have hd1 : d + c ≤ size := by omega
  have hd2 : size ≤ d + c := by omega
  clear hf hi hsrc c0 hd
  have key : ∀ q : Nat, Calls Try.prog 30 #[.pointer (some ⟨b, 0, none⟩), .int .i64 ((c : Int) + (m : Int))] (w.drewN q) fun e w' => e = .returned (.tuple #[]) ∧
      ∃ g n f C, RingIn 51 3 1 w' b g size n f c C ∧ Wheel C (f * 1) F ∧ c + m ≤ n ∧ Moved w go (some g) ∧ Kept (fun i => i = b) w w' := fun q => by
    have := ri_reserve_any b size c (c + m) go F (w.drewN q) HI.out (by omega) (by omega) hm2
    rw [show ((c + m : Nat) : Int) = (c : Int) + (m : Int) by omega] at this
    exact this.mono fun e w' ⟨he, g, n, f, C, k1, k2, k3, k4, k5⟩ => ⟨he, g, n, f, C, k1, k2, k3, k4, ((Kept.refl _ w).drewN q).trans k5 (fun _ _ h => h)⟩
  have KEY := Lib.hid key
  clear key
  have hT : (Try.prog.info? 3).map (·.size) = some 1 := by kernel_rfl
  have HT := Lib.hid hT
  clear hT
  by_cases h : (d : Int) < (len : Int)
  · obtain rfl : m = d := by omega
    go_enter Try.func20, Try.ntmps20
    go_wp2_with fail
    refine (HF.out _ (Lib.hid rfl)).mono ?_
    rintro e w' ⟨rfl, q, rfl⟩
    go_wp2_with fail
    refine (KEY.out q).mono ?_
    rintro e w1 ⟨rfl, g, n, f, C, hr, hw, hn, hmov, hk⟩
    obtain ⟨-, d1, d2, d3, -, -, fz3⟩ := hr.cells
    have hadg : ¬ ad.block = g := by
      obtain ⟨_, _, hc3⟩ := HSrc.out
      obtain ⟨ad', e, hS, hcc⟩ := hc3 (by omega)
      injection e with e
      subst e
      rintro hg
      rcases hmov g rfl with h5 | h5
      · exact hS (.inr (by rw [hg, h5]))
      · have := cell_lt (hcc 0 _ (List.getElem?_eq_getElem (by have := HSrc.out.1; omega)))
        rw [add_block] at this
        omega
    have HAD := Lib.hid hadg
    obtain ⟨L, hLl, hLo, hLc, hLe⟩ : ∃ L : List Value, L.length = m * 1 ∧ (∀ v ∈ L, v.oneCell' = true) ∧ (∀ j v, L[j]? = some v → w1.cell? (ad.add j) = some v) ∧ cs.take m = L := by
      obtain ⟨x1, x2, x3⟩ := HSrc.out.kept hk (fun i _ e => .inl e)
      obtain ⟨ad', e, hS, hcc⟩ := x3 (by omega)
      injection e with e
      subst e
      refine ⟨_, by simp; omega, fun v hv => x2 v (List.mem_of_mem_take hv), fun j v hv => hcc j v (take_some hv), rfl⟩
    obtain ⟨B1, B2, hC, hfn, hcn, hns, -⟩ := hr
    have HB1 := Lib.hid B1
    have HB2 := Lib.hid B2
    have HC := Lib.hid hC
    have HW := Lib.hid hw
    have HMov := Lib.hid hmov
    have HK := Lib.hid hk
    have HLl := Lib.hid hLl
    have HLo := Lib.hid hLo
    have HLc := Lib.hid hLc
    have HLe := Lib.hid hLe
    clear B1 B2 hC hw hmov hk hLl hLo hLc hLe hadg
    obtain ⟨s, hsv⟩ : ∃ s : Nat, (f + c) % n = s := ⟨_, rfl⟩
    have hsn : s < n := by rw [← hsv]; exact Nat.mod_lt _ (by omega)
    have hslot : ∀ W : World, W.cell? ⟨b, 1, none⟩ = some (.slice (some ⟨g, 0, none⟩) n n) → W.cell? ⟨b, 2, none⟩ = some (.int .i64 f) → Calls Try.prog 31 #[.pointer (some ⟨b, 0, none⟩), .int .i64 c] W fun e w' => e = .returned (.int .i64 s) ∧ ∃ m, w' = W.drewN m := fun W x1 x2 => by
      have := ri_slot_any b n f c _ n W x1 x2 (by omega) (by omega) (by omega)
      rwa [hsv] at this
    have HSL := Lib.hid hslot
    have HSV := Lib.hid hsv
    obtain ⟨u, hu, hu0, hu1, hu2⟩ : ∃ u : Nat, u = min m (n - s) ∧ u ≤ m ∧ u ≤ n - s ∧ (u = m ∨ u = n - s) := ⟨_, rfl, by omega, by omega, by omega⟩
    have HU := Lib.hid hu
    have HU2 := Lib.hid hu2
    clear hslot hsv hu hu2
    go_wp2
    refine wp_region_quiet_tail 14 (by kernel_rfl) (by kernel_rfl) ?_
    simp only [List.take_succ_cons, List.take_zero, List.drop_succ_cons, List.drop_zero]
    repeat (go_big_quiet_step ((go_at_call 31; exact Calls.quiet_of (HSL.out _ d1 d2))))
    refine wpQuiet_nil ?_
    intro _ hw'
    obtain ⟨nr, hw''⟩ := hw'
    subst hw''
    refine wpList_copyK rfl (.tmp 32) (.tmp 35) _ _ rfl 3 Try.underlying22 1 (by omega) HT.out _ _ _ _ _ _ rfl rfl g s C 3 HB2.out (L.take u) u (by show u = min _ _; have := HU.out; omega) (by have := HLl.out; simp; omega)
      (fun _ => ⟨rfl, _, rfl, fun j v hv => HLc.out j v (take_some hv)⟩) (by have := HC.out; have := HLl.out; simp; omega) (fun v hv => HLo.out v (List.mem_of_mem_take hv)) ?_
    intro W1 HD1 K1 S1
    have hbg : ¬ b = g := Blk.ne_ HB1.out HB2.out (by decide)
    have x1 := K1.cell (p := ⟨b, 1, none⟩) hbg (by simpa using d1)
    have hLc1 : ∀ j v, L[j]? = some v → W1.cell? (ad.add j) = some v := fun j v hv => K1.cell (by rw [add_block]; exact HAD.out) (HLc.out j v hv)
    have hB1 : Hid (Blk W1 b 51 #[.int .i64 size, .slice (some ⟨g, 0, none⟩) n n, .int .i64 f, .int .i64 c]) := Lib.hid (Blk.kept (w := w1.drewN nr) HB1.out K1 hbg)
    have HLc1 := Lib.hid hLc1
    have HK1 := Lib.hid K1
    clear S1 K1 hLc1 d1 d2 d3 fz3
    go_wp2
    refine wp_region_quiet_tail 8 (by kernel_rfl) (by kernel_rfl) ?_
    simp only [List.take_succ_cons, List.take_zero, List.drop_succ_cons, List.drop_zero]
    repeat (go_big_quiet_step (fail))
    refine wpQuiet_nil ?_
    intro _ hw'
    obtain ⟨ns, hw''⟩ := hw'
    subst hw''
    refine wpList_copyK rfl (.tmp 40) (.tmp 44) _ _ rfl 3 Try.underlying22 1 (by omega) HT.out _ _ _ _ _ _ rfl rfl g 0 _ 3 HD1.out (L.drop u) (m - u) (by show m - u = min _ _; omega) (by have := HLl.out; simp; omega)
      (fun h0 => ⟨rfl, ad.add u, by first | rfl | exact if_neg (by simp at h0; have := HLl.out; omega), fun j v hv => by rw [add_add_]; exact HLc1.out _ v (by rwa [List.getElem?_drop] at hv)⟩) (by rw [length_splice _ _ _ (by have := HC.out; have := HLl.out; simp; omega)]; have := HC.out; have := HLl.out; simp; omega) (fun v hv => HLo.out v (List.mem_of_mem_drop hv)) ?_
    intro W2 HD2 K2 S2
    have hB2 : Hid (Blk W2 b 51 #[.int .i64 size, .slice (some ⟨g, 0, none⟩) n n, .int .i64 f, .int .i64 c]) := Lib.hid (Blk.kept (w := W1.drewN ns) hB1.out K2 hbg)
    have y3 := hB2.out.cell 3
    have z3 := hB2.out.frozen 3
    have hend : ∃ go', RingAt 51 3 1 (W2.setCell ⟨b, 3, none⟩ (.int .i64 ((c : Int) + (m : Int)))) b go' size (c + m) (F ++ L) ∧ Moved w go go' ∧ Kept (Foot b go) w (W2.setCell ⟨b, 3, none⟩ (.int .i64 ((c : Int) + (m : Int)))) := by
      have hFl := HI.out.1
      have hFo := HI.out.2.1
      refine ⟨some g, ?_, HMov.out, ?_⟩
      · refine ⟨by rw [List.length_append, hFl, HLl.out, Nat.add_mul], fun v hv => (List.mem_append.1 hv).elim (hFo v) (HLo.out v), .inr ⟨g, n, f, _, rfl, ⟨?_, Blk.far (HD2.out) (Ne.symm hbg) _, ?_, hfn, hn, hns, hs⟩, ?_⟩⟩
        · have := hB2.out.set_ 3 (.int .i64 ((c : Int) + (m : Int)))
          rw [show (c : Int) + (m : Int) = ((c + m : Nat) : Int) by omega] at this ⊢
          exact this
        · have := HC.out; have := HLl.out
          rw [length_splice _ _ _ (by rw [length_splice _ _ _ (by simp; omega)]; simp; omega), length_splice _ _ _ (by simp; omega)]
          exact HC.out
        · have := push_wheel HW.out hFl HC.out HLl.out hn HSV.out.symm HU.out
          first | exact this | (simp only [Nat.mul_one] at this ⊢; exact this)
      · refine Kept.setCell (S := Foot b go) ?_ (.inl (.inl rfl)) _
        have k1 : Kept (fun i => i = g) w1 W2 := ((((Kept.refl _ w1).drewN nr).trans HK1.out (fun _ _ h => h)).drewN ns).trans K2 (fun _ _ h => h)
        refine (HK.out.more (fun i _ e => .inl e)).trans k1 (fun i hi e => ?_)
        subst e
        rcases HMov.out _ rfl with h5 | h5
        · exact .inr h5.symm
        · omega
    rw [← HLe.out] at hend
    have HE := Lib.hid hend
    clear S2 K2 hend
    go_wp2
    all_goals
      go_ret
      exact ⟨rfl, HE.out⟩
  · obtain rfl : m = len := by omega
    go_enter Try.func20, Try.ntmps20
    go_wp2_with fail
    refine (HF.out _ (Lib.hid rfl)).mono ?_
    rintro e w' ⟨rfl, q, rfl⟩
    go_wp2_with fail
    refine (KEY.out q).mono ?_
    rintro e w1 ⟨rfl, g, n, f, C, hr, hw, hn, hmov, hk⟩
    obtain ⟨-, d1, d2, d3, -, -, fz3⟩ := hr.cells
    have hadg : ¬ ad.block = g := by
      obtain ⟨_, _, hc3⟩ := HSrc.out
      obtain ⟨ad', e, hS, hcc⟩ := hc3 (by omega)
      injection e with e
      subst e
      rintro hg
      rcases hmov g rfl with h5 | h5
      · exact hS (.inr (by rw [hg, h5]))
      · have := cell_lt (hcc 0 _ (List.getElem?_eq_getElem (by have := HSrc.out.1; omega)))
        rw [add_block] at this
        omega
    have HAD := Lib.hid hadg
    obtain ⟨L, hLl, hLo, hLc, hLe⟩ : ∃ L : List Value, L.length = m * 1 ∧ (∀ v ∈ L, v.oneCell' = true) ∧ (∀ j v, L[j]? = some v → w1.cell? (ad.add j) = some v) ∧ cs.take m = L := by
      obtain ⟨x1, x2, x3⟩ := HSrc.out.kept hk (fun i _ e => .inl e)
      obtain ⟨ad', e, hS, hcc⟩ := x3 (by omega)
      injection e with e
      subst e
      refine ⟨_, by simp; omega, fun v hv => x2 v (List.mem_of_mem_take hv), fun j v hv => hcc j v (take_some hv), rfl⟩
    obtain ⟨B1, B2, hC, hfn, hcn, hns, -⟩ := hr
    have HB1 := Lib.hid B1
    have HB2 := Lib.hid B2
    have HC := Lib.hid hC
    have HW := Lib.hid hw
    have HMov := Lib.hid hmov
    have HK := Lib.hid hk
    have HLl := Lib.hid hLl
    have HLo := Lib.hid hLo
    have HLc := Lib.hid hLc
    have HLe := Lib.hid hLe
    clear B1 B2 hC hw hmov hk hLl hLo hLc hLe hadg
    obtain ⟨s, hsv⟩ : ∃ s : Nat, (f + c) % n = s := ⟨_, rfl⟩
    have hsn : s < n := by rw [← hsv]; exact Nat.mod_lt _ (by omega)
    have hslot : ∀ W : World, W.cell? ⟨b, 1, none⟩ = some (.slice (some ⟨g, 0, none⟩) n n) → W.cell? ⟨b, 2, none⟩ = some (.int .i64 f) → Calls Try.prog 31 #[.pointer (some ⟨b, 0, none⟩), .int .i64 c] W fun e w' => e = .returned (.int .i64 s) ∧ ∃ m, w' = W.drewN m := fun W x1 x2 => by
      have := ri_slot_any b n f c _ n W x1 x2 (by omega) (by omega) (by omega)
      rwa [hsv] at this
    have HSL := Lib.hid hslot
    have HSV := Lib.hid hsv
    obtain ⟨u, hu, hu0, hu1, hu2⟩ : ∃ u : Nat, u = min m (n - s) ∧ u ≤ m ∧ u ≤ n - s ∧ (u = m ∨ u = n - s) := ⟨_, rfl, by omega, by omega, by omega⟩
    have HU := Lib.hid hu
    have HU2 := Lib.hid hu2
    clear hslot hsv hu hu2
    go_wp2
    refine wp_region_quiet_tail 14 (by kernel_rfl) (by kernel_rfl) ?_
    simp only [List.take_succ_cons, List.take_zero, List.drop_succ_cons, List.drop_zero]
    repeat (go_big_quiet_step ((go_at_call 31; exact Calls.quiet_of (HSL.out _ d1 d2))))
    refine wpQuiet_nil ?_
    intro _ hw'
    obtain ⟨nr, hw''⟩ := hw'
    subst hw''
    refine wpList_copyK rfl (.tmp 32) (.tmp 35) _ _ rfl 3 Try.underlying22 1 (by omega) HT.out _ _ _ _ _ _ rfl rfl g s C 3 HB2.out (L.take u) u (by show u = min _ _; have := HU.out; omega) (by have := HLl.out; simp; omega)
      (fun _ => ⟨rfl, _, rfl, fun j v hv => HLc.out j v (take_some hv)⟩) (by have := HC.out; have := HLl.out; simp; omega) (fun v hv => HLo.out v (List.mem_of_mem_take hv)) ?_
    intro W1 HD1 K1 S1
    have hbg : ¬ b = g := Blk.ne_ HB1.out HB2.out (by decide)
    have x1 := K1.cell (p := ⟨b, 1, none⟩) hbg (by simpa using d1)
    have hLc1 : ∀ j v, L[j]? = some v → W1.cell? (ad.add j) = some v := fun j v hv => K1.cell (by rw [add_block]; exact HAD.out) (HLc.out j v hv)
    have hB1 : Hid (Blk W1 b 51 #[.int .i64 size, .slice (some ⟨g, 0, none⟩) n n, .int .i64 f, .int .i64 c]) := Lib.hid (Blk.kept (w := w1.drewN nr) HB1.out K1 hbg)
    have HLc1 := Lib.hid hLc1
    have HK1 := Lib.hid K1
    clear S1 K1 hLc1 d1 d2 d3 fz3
    go_wp2
    refine wp_region_quiet_tail 8 (by kernel_rfl) (by kernel_rfl) ?_
    simp only [List.take_succ_cons, List.take_zero, List.drop_succ_cons, List.drop_zero]
    repeat (go_big_quiet_step (fail))
    refine wpQuiet_nil ?_
    intro _ hw'
    obtain ⟨ns, hw''⟩ := hw'
    subst hw''
    refine wpList_copyK rfl (.tmp 40) (.tmp 44) _ _ rfl 3 Try.underlying22 1 (by omega) HT.out _ _ _ _ _ _ rfl rfl g 0 _ 3 HD1.out (L.drop u) (m - u) (by show m - u = min _ _; omega) (by have := HLl.out; simp; omega)
      (fun h0 => ⟨rfl, ad.add u, by first | rfl | exact if_neg (by simp at h0; have := HLl.out; omega), fun j v hv => by rw [add_add_]; exact HLc1.out _ v (by rwa [List.getElem?_drop] at hv)⟩) (by rw [length_splice _ _ _ (by have := HC.out; have := HLl.out; simp; omega)]; have := HC.out; have := HLl.out; simp; omega) (fun v hv => HLo.out v (List.mem_of_mem_drop hv)) ?_
    intro W2 HD2 K2 S2
    have hB2 : Hid (Blk W2 b 51 #[.int .i64 size, .slice (some ⟨g, 0, none⟩) n n, .int .i64 f, .int .i64 c]) := Lib.hid (Blk.kept (w := W1.drewN ns) hB1.out K2 hbg)
    have y3 := hB2.out.cell 3
    have z3 := hB2.out.frozen 3
    have hend : ∃ go', RingAt 51 3 1 (W2.setCell ⟨b, 3, none⟩ (.int .i64 ((c : Int) + (m : Int)))) b go' size (c + m) (F ++ L) ∧ Moved w go go' ∧ Kept (Foot b go) w (W2.setCell ⟨b, 3, none⟩ (.int .i64 ((c : Int) + (m : Int)))) := by
      have hFl := HI.out.1
      have hFo := HI.out.2.1
      refine ⟨some g, ?_, HMov.out, ?_⟩
      · refine ⟨by rw [List.length_append, hFl, HLl.out, Nat.add_mul], fun v hv => (List.mem_append.1 hv).elim (hFo v) (HLo.out v), .inr ⟨g, n, f, _, rfl, ⟨?_, Blk.far (HD2.out) (Ne.symm hbg) _, ?_, hfn, hn, hns, hs⟩, ?_⟩⟩
        · have := hB2.out.set_ 3 (.int .i64 ((c : Int) + (m : Int)))
          rw [show (c : Int) + (m : Int) = ((c + m : Nat) : Int) by omega] at this ⊢
          exact this
        · have := HC.out; have := HLl.out
          rw [length_splice _ _ _ (by rw [length_splice _ _ _ (by simp; omega)]; simp; omega), length_splice _ _ _ (by simp; omega)]
          exact HC.out
        · have := push_wheel HW.out hFl HC.out HLl.out hn HSV.out.symm HU.out
          first | exact this | (simp only [Nat.mul_one] at this ⊢; exact this)
      · refine Kept.setCell (S := Foot b go) ?_ (.inl (.inl rfl)) _
        have k1 : Kept (fun i => i = g) w1 W2 := ((((Kept.refl _ w1).drewN nr).trans HK1.out (fun _ _ h => h)).drewN ns).trans K2 (fun _ _ h => h)
        refine (HK.out.more (fun i _ e => .inl e)).trans k1 (fun i hi e => ?_)
        subst e
        rcases HMov.out _ rfl with h5 | h5
        · exact .inr h5.symm
        · omega
    rw [← HLe.out] at hend
    have HE := Lib.hid hend
    clear S2 K2 hend
    go_wp2
    all_goals
      go_ret
      exact ⟨rfl, HE.out⟩

/-- Push: as many as there is room for. -/
theorem ri_push_any (b size c len cap : Nat) (go : Option Nat) (a : Option Addr) (F cs : List Value) (w : World) (hi : RingAt 51 3 1 w b go size c F) (hsrc : Src w (Foot b go) a len 1 cs)
    (hl : len ≤ cap) (hcap : cap ≤ 9223372036854775807) :
    Calls Try.prog 20 #[.pointer (some ⟨b, 0, none⟩), .slice a len cap] w fun e w' => e = .returned (.int .i64 ((min len (size - c) : Nat) : Int)) ∧
      ∃ go', RingAt 51 3 1 w' b go' size (c + min len (size - c)) (F ++ cs.take (min len (size - c) * 1)) ∧ Moved w go go' ∧ Kept (Foot b go) w w' := by
  obtain ⟨h1, h2, h3⟩ := hi.size_le
  by_cases hz : min len (size - c) = 0
  · rw [hz]
    refine (ri_push_zero b size c w a len cap (by omega) hi.cells.1 hi.cells.2 h3 h1 (by omega)).mono fun e w' ⟨he, m, hm⟩ => ⟨he, go, ?_, fun i h => .inl h, by subst hm; exact (Kept.refl _ _).drewN _⟩
    subst hm
    simpa using hi.drewN m
  · obtain ⟨ad, rfl, _⟩ := hsrc.2.2 (by omega)
    have := ri_push_some b size c (min len (size - c)) len cap go ad F cs w hi hsrc hl hcap (by omega) (by omega) (by omega) (by omega)
    first | exact this | (rw [Nat.mul_one]; exact this)
end Go.Proofs.Ytcjohlbglbcglaa
