/- The reference's Order. -/
import Derived.Test.YthnhpmeacboljaaRof
namespace Go.Proofs.Ythnhpmeacboljaa
open Go Go.RowKit Go.Deep
set_option linter.unusedVariables false
set_option linter.unusedSimpArgs false
set_option maxRecDepth 100000

theorem od_take {L : List Ev} {k : Nat} {e : Ev} (h : L[k]? = some e) : (stL (L.take (k + 1))).od = (stL (L.take k)).od ++ if firstZ L e.r.ix = (k : Int) then [e.r.ix] else [] := by
  rw [stL_take h, addS_od]
  by_cases hc : recB e.r.ix e = true ∧ ((stL (L.take k)).ex e.r.ix).isNone = true
  · have hn : ∀ (j : Nat) (e' : Ev), j < k → L[j]? = some e' → recB e.r.ix e' = false := fun j e' hj he' => by
      cases hr : recB e.r.ix e' with
      | false => rfl
      | true =>
        have h1 := hc.2
        rw [ex_find] at h1
        have h2 : ((L.take k).find? (recB e.r.ix)).isSome = true := by
          rw [List.find?_isSome]
          exact ⟨e', List.mem_of_getElem? (i := j) (by rw [List.getElem?_take_of_lt hj]; exact he'), hr⟩
        cases hf : (L.take k).find? (recB e.r.ix) <;> simp [hf] at h1 h2
    rw [if_pos hc, if_pos (firstZ_some h hc.1 hn).1]
  · rw [if_neg hc, if_neg, List.append_nil]
    intro hz
    rcases first_cases L e.r.ix with ⟨h1, -, -⟩ | ⟨k0, e0, h1, h2, h3, h4, -⟩
    · rw [h1] at hz; omega
    · rw [h4] at hz
      have hk : k0 = k := by omega
      subst hk
      rw [h] at h1
      injection h1 with h1
      subst h1
      refine hc ⟨h2, ?_⟩
      rw [(firstZ_none (L := L.take k0) (fun j e' he => by
        have hj : j < k0 := by
          have := (List.getElem?_eq_some_iff.1 he).1
          rw [List.length_take] at this
          omega
        rw [List.getElem?_take_of_lt hj] at he
        exact h3 j e' hj he)).2]
      rfl
theorem cls_exit {L : List Ev} {i : Int} {k : Nat} {e : Ev} (h : L[k]? = some e) (hz : firstZ L i = (k : Int)) (c : Int) : clsIs (stL L) c i = decide (((exitV (stL L) i).getD xvZ).cl = c) ∧ (exitV (stL L) i).isSome = true := by
  rcases first_cases L i with ⟨h1, -, -⟩ | ⟨k0, e0, h1, h2, h3, h4, h5⟩
  · rw [h1] at hz; omega
  · unfold clsIs exitV
    rw [h5]
    exact ⟨rfl, rfl⟩
set_option maxHeartbeats 3200000 in
theorem reforder_any (rb : Nat) (L : List Ev) (c : Int) (w : World) (h : RLogAt w rb L) (hl : L.length ≤ 1000000) :
    Calls Try.prog 21 #[.pointer (some ⟨rb, 0, none⟩), .int .i64 c] w fun e w' => IntsPost w (ofCls (stL L) c) e w' := by
  obtain ⟨oa, oc, ra, rc, hL⟩ := h
  have HL := Lib.hid hL
  clear hL
  obtain ⟨n, hn⟩ : ∃ n, L.length = n := ⟨_, rfl⟩
  have HN := Lib.hid hn
  have y0 : w.cell? ⟨rb, 0, none⟩ = some (.slice oa n oc) := by rw [← hn]; exact HL.out.blk.cell 0
  have hl' := hl
  rw [hn] at hl'
  clear hn
  go_enter Try.func21, Try.ntmps21
  go_wp2_with (fail)
  go_loopw [5, 6] (fun acc i wr => ∃ (k : Nat) (a : Option Addr) (p cp : Nat), k ≤ n ∧ i = .int .i64 k ∧ acc = .slice a p cp ∧ Hid ((((stL (L.take k)).od).filter (clsIs (stL L) c)).length = p ∧ OwnI wr w.heap.size (.slice a p cp) (((stL (L.take k)).od).filter (clsIs (stL L) c)) ∧ Below w.heap.size w wr)) (fun _ i _ => n - (intOf i).toNat)
  case atStart => exact ⟨0, none, 0, 0, by omega, rfl, rfl, Lib.hid ⟨rfl, OwnI.nil _ _, Below.refl _ _⟩⟩
  case round =>
    clear y0
    obtain ⟨k, a, p, cp, hk, rfl, rfl, HA⟩ := hrel
    have HRL := Lib.hid (HL.out.below HA.out.2.2)
    have y0 : wr.cell? ⟨rb, 0, none⟩ = some (.slice oa n oc) := by rw [← HN.out]; exact HRL.out.blk.cell 0
    have y1 : wr.cell? ⟨rb, 1, none⟩ = some (.slice ra n rc) := by rw [← HN.out]; exact HRL.out.blk.cell 1
    by_cases hlt : k < n
    · obtain ⟨e, he⟩ : ∃ e, L[k]? = some e := ⟨_, List.getElem?_eq_getElem (by rw [HN.out]; exact hlt)⟩
      have HE := Lib.hid he
      obtain ⟨g2, o2, hq2, r2⟩ := HRL.out.rcp he
      subst hq2
      have x2 : wr.cell? ⟨g2, o2 + k * 9 + 2, none⟩ = some (.int .i64 e.r.ix) := r2 2 _ rfl
      have HTK := Lib.hid (od_take he)
      have HPL : Hid (p ≤ 1000000) := Lib.hid (by
        rw [← HA.out.1]
        have h1 := List.length_filter_le (clsIs (stL L) c) (stL (L.take k)).od
        have h2 := (od_ind (L.take k)).2.2
        have h3 : (L.take k).length ≤ L.length := by rw [List.length_take]; exact Nat.min_le_right _ _
        omega)
      have hki : (0 : Int) ≤ (k : Int) := by omega
      have hkn : (k : Int) < (n : Int) := by omega
      have hk1 : ¬ (k : Int) < 0 := by omega
      have hk2 : ¬ (n : Int) ≤ (k : Int) := by omega
      clear he r2
      generalize e.r.ix = ix at *
      go_wp2_with (fail)
      refine (first_any rb L ix wr ⟨_, _, _, _, HRL.out⟩ hl).mono ?_
      rintro r w' ⟨rfl, rfl⟩
      by_cases hz : firstZ L ix = (k : Int)
      · have HZ := Lib.hid hz
        have HO : Hid ((stL (L.take (k + 1))).od = (stL (L.take k)).od ++ [ix]) := Lib.hid (by rw [HTK.out, if_pos hz])
        rw [hz]
        have hzz : ((k : Int) != (k : Int)) = false := by simp
        clear hz
        go_wp2_with (fail)
        refine (of_any rb L ix wr ⟨_, _, _, _, HRL.out⟩ hl).mono ?_
        rintro r w1 ⟨rfl, hb⟩
        have HO1 := Lib.hid (HA.out.2.1.below hb)
        have HB1 : Hid (Below w.heap.size w w1) := Lib.hid (HA.out.2.2.trans (hb.mono HA.out.2.2.size))
        have HCL := Lib.hid (cls_exit HE.out HZ.out c).1
        have HP := Lib.hid HA.out.1
        clear hb HA HRL y0 y1 x2
        generalize (exitV (stL L) ix).getD xvZ = x at *
        generalize (exitV (stL L) ix).isSome = rs at *
        have HO2 := Lib.hid (HO1.out.below (w' := w1.alloc (.cells (cellsXv x) 33)) ((Below.refl _ _).alloc (Nat.le_refl _) _))
        have HB2 := Lib.hid (HB1.out.alloc HB1.out.size (.cells (cellsXv x) 33))
        have KX : Hid (Blk (w1.alloc (.cells (cellsXv x) 33)) w1.heap.size 33 (cellsXv x)) := Lib.hid (Blk.new _ _ _)
        go_upto_region 8 with (first | (refine wpList_store_row rfl _ _ _ rfl w1.heap.size (cellsXv x) rfl rfl 33 _ (heap_alloc_new w1 _) infoXvF rfl (cellsXv_one _) ?_; rw [World.setRow_alloc_new]))
        generalize w1.alloc (.cells (cellsXv x) 33) = w3 at *
        generalize w1.heap.size = xb at *
        clear HO1 HB1
        clear w1
        have c0 : w3.cell? ⟨xb, 0, none⟩ = some (.int .i64 x.cl) := KX.out.cell 0
        generalize x.cl = cl at *
        by_cases hcc : cl = c
        · have HF : Hid (clsIs (stL L) c ix = true) := Lib.hid (by rw [HCL.out]; simpa using hcc)
          have d : (cl == c) = true := by simpa using hcc
          clear hcc
          have HKN : Hid (∀ x, (w3.alloc (.cells #[.int .i64 x] 3)).cell? ⟨w3.heap.size, 0, none⟩ = some (.int .i64 x)) := Lib.hid (fun x => (Blk.new w3 3 #[.int .i64 x]).cell 0)
          have HOW : Hid (OwnI (w3.alloc (.cells #[.int .i64 ix] 3)) w.heap.size (.slice a p cp) ((stL (L.take k)).od.filter (clsIs (stL L) c))) := Lib.hid (HO2.out.below ((Below.refl _ _).alloc (Nat.le_refl _) _))
          have HB : Hid (Below w.heap.size w (w3.alloc (.cells #[.int .i64 ix] 3)) ∧ w.heap.size ≤ w3.heap.size) := Lib.hid ⟨HB2.out.alloc HB2.out.size _, HB2.out.size⟩
          go_wp2_with (first | (refine arm_appI HOW.out (HKN.out ix) rfl _ _ rfl rfl rfl (by rw [HP.out]; have := HPL.out; omega) (by have := HB.out.2; simp; omega) ?_; intro v' w4 ho3 hg3 hs3; obtain ⟨a3, c3, rfl, -, -⟩ := ho3.slice; clear hs3))
          go_roundw
          case rel =>
            refine ⟨k + 1, a3, _, c3, by omega, by go_num, rfl, Lib.hid ⟨?_, ?_, ?_⟩⟩
            · rw [HO.out, List.filter_append, show List.filter (clsIs (stL L) c) [ix] = [ix] by simp [HF.out], List.length_append, List.length_singleton]
            · rw [HO.out, List.filter_append, show List.filter (clsIs (stL L) c) [ix] = [ix] by simp [HF.out]]
              rw [List.length_append, List.length_singleton] at ho3
              exact ho3
            · exact HB.out.1.grown hg3 (by have := HB.out.2; simp; omega) (fun g hg => HOW.out.ge hg)
          case measure => simp [intOf]; omega
        · have HF : Hid (clsIs (stL L) c ix = false) := Lib.hid (by rw [HCL.out]; simpa using hcc)
          have d : (cl == c) = false := by simpa using hcc
          clear hcc
          go_wp2_with (fail)
          go_roundw
          case rel =>
            refine ⟨k + 1, a, p, cp, by omega, by go_num, rfl, Lib.hid ?_⟩
            rw [HO.out, List.filter_append, show List.filter (clsIs (stL L) c) [ix] = [] by simp [HF.out], List.append_nil]
            exact ⟨HP.out, HO2.out, HB2.out⟩
          case measure => simp [intOf]; omega
      · have HO : Hid ((stL (L.take (k + 1))).od = (stL (L.take k)).od) := Lib.hid (by rw [HTK.out, if_neg hz, List.append_nil])
        have hzz : (firstZ L ix != (k : Int)) = true := by simpa using hz
        generalize firstZ L ix = fz at *
        clear hz
        go_wp2_with (fail)
        go_roundw
        case rel =>
          refine ⟨k + 1, a, p, cp, by omega, by go_num, rfl, Lib.hid ?_⟩
          rw [HO.out]
          exact HA.out
        case measure => simp [intOf]; omega
    · obtain rfl : k = n := by omega
      clear hlt
      have hlt : ¬ k < k := by omega
      have hT : L.take k = L := List.take_of_length_le (by rw [HN.out]; exact Nat.le_refl _)
      go_wp2_with (fail)
      go_ret
      have := HA.out
      rw [hT] at this
      obtain ⟨h1, h2, h3⟩ := this
      subst h1
      exact ⟨a, cp, rfl, h2, h3⟩
end Go.Proofs.Ythnhpmeacboljaa
