/- isLate, lateAt and Late. -/
import Derived.Test.YthnhpmeacboljaaPayL
namespace Go.Proofs.Ythnhpmeacboljaa
open Go Go.RowKit Go.Deep
set_option linter.unusedVariables false
set_option linter.unusedSimpArgs false
set_option maxRecDepth 100000

theorem isLateB_eq (x : Xv) (ep : Int) : isLateB x ep = (((x.dl != -1) && (x.sl == -1)) && (decide (x.dl < x.pd) || ((x.pd == -1) && decide (x.dl < ep)))) := by
  unfold isLateB
  congr 2
  · congr 1
    by_cases h : x.dl = -1 <;> simp [h]
set_option maxHeartbeats 6400000 in
theorem isLate_any (x : Xv) (ep : Int) (w : World) : Calls Try.prog 49 #[.agg (cellsXv x), .int .i64 ep] w fun e w' => e = .returned (.bool (isLateB x ep)) ∧ Below w.heap.size w w' := by
  have HE := Lib.hid (isLateB_eq x ep)
  have HB : Hid (Below w.heap.size w (w.alloc (.cells (cellsXv x) 30))) := Lib.hid ((Below.refl _ _).alloc (Nat.le_refl _) _)
  have KX : Hid (Blk (w.alloc (.cells (cellsXv x) 30)) w.heap.size 30 (cellsXv x)) := Lib.hid (Blk.new _ _ _)
  have HC : Hid ((cellsXv x)[2]? = some (.int .i64 x.dl) ∧ (cellsXv x)[4]? = some (.int .i64 x.sl) ∧ (cellsXv x)[5]? = some (.int .i64 x.pd)) := Lib.hid ⟨rfl, rfl, rfl⟩
  generalize isLateB x ep = r at *
  generalize x.dl = dl at *
  generalize x.sl = sl at *
  generalize x.pd = pd at *
  obtain ⟨b1, h1⟩ : ∃ b, (dl != -1) = b := ⟨_, rfl⟩
  obtain ⟨b2, h2⟩ : ∃ b, (sl == -1) = b := ⟨_, rfl⟩
  obtain ⟨b3, h3⟩ : ∃ b, decide (dl < pd) = b := ⟨_, rfl⟩
  obtain ⟨b4, h4⟩ : ∃ b, (pd == -1) = b := ⟨_, rfl⟩
  obtain ⟨b5, h5⟩ : ∃ b, decide (dl < ep) = b := ⟨_, rfl⟩
  rw [h1, h2, h3, h4, h5] at HE
  go_enter Try.func49, Try.ntmps49
  go_upto_region 1 with (fail)
  generalize cellsXv x = cs at *
  generalize w.alloc (.cells cs 30) = W at *
  generalize hxb : w.heap.size = xb at *
  have HXB := Lib.hid hxb
  clear hxb
  have x2 : W.cell? ⟨xb, 2, none⟩ = some (.int .i64 dl) := (KX.out.cell 2).trans HC.out.1
  have x4 : W.cell? ⟨xb, 4, none⟩ = some (.int .i64 sl) := (KX.out.cell 4).trans HC.out.2.1
  have x5 : W.cell? ⟨xb, 5, none⟩ = some (.int .i64 pd) := (KX.out.cell 5).trans HC.out.2.2
  clear HC KX
  cases b1 <;> cases b2 <;> cases b3 <;> cases b4 <;> cases b5 <;>
    (go_wp2
     go_ret
     exact ⟨by rw [HE.out]; rfl, by rw [HXB.out]; exact HB.out⟩)
theorem late_at {s : St} {L : List Int} {i : Int} (hi : i ∈ s.od) : lateB s i = isLateB ((exitV s i).getD xvZ) s.ep := rfl
set_option maxHeartbeats 3200000 in
theorem lateAt_any (b : Nat) (T : Nat → Prop) (s : St) (n ep : Int) (w : World) (h : LgAt w b T s n) (hep : ep = s.ep) (hl : s.od.length ≤ 1000000) :
    Calls Try.prog 34 #[.pointer (some ⟨b, 0, none⟩), .int .i64 ep] w fun e w' => IntsPost w (srt (lateL s)) e w' := by
  obtain ⟨v, hv⟩ := h
  have HV := Lib.hid hv
  have HL := Lib.hid hl
  have HEP := Lib.hid hep
  clear hv hep
  obtain ⟨q, hq⟩ : ∃ q, s.od.length = q := ⟨_, rfl⟩
  have HQ := Lib.hid hq
  have y1 : w.cell? ⟨b, 1, none⟩ = some (.slice v.oa q v.oc) := by rw [← hq]; exact HV.out.cell 1
  rw [hq] at hl
  clear hq
  go_enter Try.func34, Try.ntmps34
  go_wp2_with (fail)
  go_loopw [5, 15] (fun acc i wr => ∃ (k : Nat) (a : Option Addr) (p cp : Nat), k ≤ q ∧ i = .int .i64 k ∧ acc = .slice a p cp ∧ Hid (((s.od.take k).filter (lateB s)).length = p ∧ OwnI wr w.heap.size (.slice a p cp) ((s.od.take k).filter (lateB s)) ∧ Below w.heap.size w wr)) (fun _ i _ => q - (intOf i).toNat)
  case atStart => exact ⟨0, none, 0, 0, by omega, rfl, rfl, Lib.hid ⟨rfl, OwnI.nil _ _, Below.refl _ _⟩⟩
  case round =>
    clear y1
    obtain ⟨k, a, p, cp, hk, rfl, rfl, HA⟩ := hrel
    by_cases hlt : k < q
    · obtain ⟨i, hi⟩ : ∃ i, s.od[k]? = some i := ⟨_, List.getElem?_eq_getElem (by rw [HQ.out]; exact hlt)⟩
      have HW := Lib.hid (HV.out.wf i (List.mem_of_getElem? hi))
      have HV1 := Lib.hid (HV.out.below HA.out.2.2)
      obtain ⟨g, hg, hc⟩ := od_cell HV1.out hi
      rw [hg] at *
      have HTK : Hid (s.od.take (k + 1) = s.od.take k ++ [i]) := Lib.hid (by rw [List.take_add_one, hi]; rfl)
      have HPL : Hid (p ≤ 1000000) := Lib.hid (by
        rw [← HA.out.1]
        have h1 := List.length_filter_le (lateB s) (s.od.take k)
        have h2 : (s.od.take k).length ≤ s.od.length := by rw [List.length_take]; exact Nat.min_le_right _ _
        have := HL.out
        omega)
      have hki : (0 : Int) ≤ (k : Int) := by omega
      have hkn : (k : Int) < (q : Int) := by omega
      clear hi hg
      go_wp2_with (fail)
      refine (exit_go b T s n i wr ⟨v, HV1.out⟩ HW.out).mono ?_
      rintro e w1 ⟨rfl, hb⟩
      have HO1 := Lib.hid (HA.out.2.1.below hb)
      have HB1 : Hid (Below w.heap.size w w1) := Lib.hid (HA.out.2.2.trans (hb.mono HA.out.2.2.size))
      have HLT : Hid (lateB s i = isLateB ((exitV s i).getD xvZ) ep) := Lib.hid (by rw [HEP.out]; rfl)
      have HP := Lib.hid HA.out.1
      clear hb HV1 HA hc
      generalize (exitV s i).getD xvZ = x at *
      generalize (exitV s i).isSome = rs at *
      have HO2 := Lib.hid (HO1.out.below (w' := w1.alloc (.cells (cellsXv x) 30)) ((Below.refl _ _).alloc (Nat.le_refl _) _))
      have HB2 := Lib.hid (HB1.out.alloc HB1.out.size (.cells (cellsXv x) 30))
      have KX : Hid (Blk (w1.alloc (.cells (cellsXv x) 30)) w1.heap.size 30 (cellsXv x)) := Lib.hid (Blk.new _ _ _)
      go_upto_region 6 with (first | (refine wpList_store_row rfl _ _ _ rfl w1.heap.size (cellsXv x) rfl rfl 30 _ (heap_alloc_new w1 _) infoXv rfl (cellsXv_one _) ?_; rw [World.setRow_alloc_new]))
      generalize w1.alloc (.cells (cellsXv x) 30) = w2 at *
      generalize w1.heap.size = xb at *
      clear HO1 HB1
      clear w1
      go_wp2_with (refine wpList_load_row rfl 30 _ rfl xb rfl 30 (cellsXv x) (0, 0) _ KX.out Try.underlying30 rfl infoXv ?_)
      refine (isLate_any x ep w2).mono ?_
      rintro e w3 ⟨rfl, hb⟩
      rw [← HLT.out]
      have HO3 := Lib.hid (HO2.out.below hb)
      have HB3 : Hid (Below w.heap.size w w3) := Lib.hid (HB2.out.trans (hb.mono HB2.out.size))
      clear hb HO2 HB2 KX HLT
      cases hlb : lateB s i with
      | false =>
        have HF := Lib.hid hlb
        clear hlb
        go_wp2_with (fail)
        go_roundw
        case rel =>
          refine ⟨k + 1, a, p, cp, by omega, by go_num, rfl, Lib.hid ?_⟩
          rw [HTK.out, List.filter_append, show List.filter (lateB s) [i] = [] by simp [HF.out], List.append_nil]
          exact ⟨HP.out, HO3.out, HB3.out⟩
        case measure => simp [intOf]; omega
      | true =>
        have HF := Lib.hid hlb
        clear hlb
        have HKN : Hid (∀ x, (w3.alloc (.cells #[.int .i64 x] 3)).cell? ⟨w3.heap.size, 0, none⟩ = some (.int .i64 x)) := Lib.hid (fun x => (Blk.new w3 3 #[.int .i64 x]).cell 0)
        have HOW : Hid (OwnI (w3.alloc (.cells #[.int .i64 i] 3)) w.heap.size (.slice a p cp) ((s.od.take k).filter (lateB s))) := Lib.hid (HO3.out.below ((Below.refl _ _).alloc (Nat.le_refl _) _))
        have HB : Hid (Below w.heap.size w (w3.alloc (.cells #[.int .i64 i] 3)) ∧ w.heap.size ≤ w3.heap.size) := Lib.hid ⟨HB3.out.alloc HB3.out.size _, HB3.out.size⟩
        go_wp2_with (first | (refine arm_appI HOW.out (HKN.out i) rfl _ _ rfl rfl rfl (by rw [HP.out]; have := HPL.out; omega) (by have := HB.out.2; simp; omega) ?_; intro v' w4 ho3 hg3 hs3; obtain ⟨a3, c3, rfl, -, -⟩ := ho3.slice; clear hs3))
        go_roundw
        case rel =>
          refine ⟨k + 1, a3, _, c3, by omega, by go_num, rfl, Lib.hid ⟨?_, ?_, ?_⟩⟩
          · rw [HTK.out, List.filter_append, show List.filter (lateB s) [i] = [i] by simp [HF.out], List.length_append, List.length_singleton]
          · rw [HTK.out, List.filter_append, show List.filter (lateB s) [i] = [i] by simp [HF.out]]
            rw [List.length_append, List.length_singleton] at ho3
            exact ho3
          · exact HB.out.1.grown hg3 (by have := HB.out.2; simp; omega) (fun g hg => HOW.out.ge hg)
        case measure => simp [intOf]; omega
    · obtain rfl : k = q := by omega
      clear hlt
      have hlt : ¬ k < k := by omega
      have hT : s.od.take k = s.od := List.take_of_length_le (by rw [HQ.out]; exact Nat.le_refl _)
      have HA2 : Hid ((lateL s).length = p ∧ OwnI wr w.heap.size (.slice a p cp) (lateL s) ∧ Below w.heap.size w wr) := Lib.hid (by
        have := HA.out
        rw [hT] at this
        exact this)
      have HLL : Hid ((lateL s).length ≤ 1000000) := Lib.hid (by
        have h1 := List.length_filter_le (lateB s) s.od
        have := HL.out
        unfold lateL
        omega)
      clear hT HA
      go_wp2_with (fail)
      refine (sort_own w.heap.size (.slice a p cp) (lateL s) wr HA2.out.2.1 HLL.out).mono ?_
      rintro e w1 ⟨rfl, h1, h2⟩
      have H1 := Lib.hid (And.intro h1 h2)
      clear h1 h2
      go_wp2_with (fail)
      go_ret
      have e1 : (srt (lateL s)).length = p := by rw [← HA2.out.1]; exact List.length_mergeSort _
      refine ⟨a, cp, by rw [e1]; rfl, by rw [e1]; exact H1.out.1, Kept.below (S := fun j => (Value.slice a p cp).ownBlock = some j) HA2.out.2.2 H1.out.2 (fun j hj => HA2.out.2.1.ge hj) HA2.out.2.2.size⟩
theorem late_any (b : Nat) (T : Nat → Prop) (s : St) (n : Int) (w : World) (h : LgAt w b T s n) (hl : s.od.length ≤ 1000000) :
    Calls Try.prog 22 #[.pointer (some ⟨b, 0, none⟩)] w fun e w' => IntsPost w (srt (lateL s)) e w' := by
  have HC := Lib.hid (fun m => (lateAt_any b T s n s.ep (w.drewN m) (h.below (below_drewN (Below.refl _ _) m)) rfl hl))
  obtain ⟨v, hv⟩ := h
  have y6 : w.cell? ⟨b, 6, none⟩ = some (.int .i64 s.ep) := hv.cell 6
  clear hv hl
  go_enter Try.func22, Try.ntmps22
  go_wp2_with (fail)
  try simp only [Act.put]
  refine wp_region_quiet_tail 7 (by kernel_rfl) (by kernel_rfl) ?_
  simp only [List.take_succ_cons, List.take_zero, List.drop_succ_cons, List.drop_zero]
  iterate 7 (go_big_quiet_step ((intros; rfl)))
  refine wpQuiet_nil ?_
  intro _ hw'
  obtain ⟨m, hw''⟩ := hw'
  subst hw''
  have H1 := Lib.hid (HC.out m)
  have HB : Hid (Below w.heap.size w (w.drewN m) ∧ (w.drewN m).heap.size = w.heap.size) := Lib.hid ⟨below_drewN (Below.refl _ _) m, rfl⟩
  clear HC y6
  generalize w.drewN m = W at *
  go_wp2_with (fail)
  refine H1.out.mono ?_
  rintro e w1 ⟨a, cp, rfl, h1, h2⟩
  have H2 := Lib.hid (And.intro h1 h2)
  clear h1 h2 H1
  go_wp2_with (fail)
  go_ret
  refine ⟨a, cp, rfl, ?_, ?_⟩
  · rw [← HB.out.2]; exact H2.out.1
  · exact HB.out.1.trans (H2.out.2.mono (by rw [HB.out.2]; exact Nat.le_refl _))
end Go.Proofs.Ythnhpmeacboljaa
