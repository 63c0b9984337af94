/- slices.symMergeCmpFunc, where the first part is one entry: it goes to its place. (mkmerge.py writes this text.) -/
import Derived.Test.YtinndmglacfofaaIns
namespace Go.Proofs.Ytinndmglacfofaa
open Go Go.RowKit Go.Deep
set_option linter.unusedVariables false
set_option linter.unusedSimpArgs false

theorem split_lt {v : List Ent} {k : Nat} {p : Ent → Prop} (h : ∀ q e, v[q]? = some e → q < k → p e) : ∀ e ∈ v.take k, p e := fun e he => by
  obtain ⟨q, hq⟩ := List.mem_iff_getElem?.1 he
  have hk : q < k := by
    have := (List.getElem?_eq_some_iff.1 hq).1
    rw [List.length_take] at this
    omega
  rw [List.getElem?_take_of_lt hk] at hq
  exact h q e hq hk
theorem split_ge {v : List Ent} {k : Nat} {p : Ent → Prop} (h : ∀ q e, v[q]? = some e → k ≤ q → p e) : ∀ e ∈ v.drop k, p e := fun e he => by
  obtain ⟨q, hq⟩ := List.mem_iff_getElem?.1 he
  rw [List.getElem?_drop] at hq
  exact h _ e hq (by omega)
/-- What the search has found. -/
def Found (v : List Ent) (x : Ent) (m i j : Nat) : Prop := ∀ q e, v[q]? = some e → (m + q < i → e.1 < x.1) ∧ (j ≤ m + q → x.1 ≤ e.1)
theorem Found.right {v : List Ent} {x e : Ent} {m i j h : Nat} (hf : Found v x m i j) (hs : Srt v) (he : v[h - m]? = some e) (hm : m ≤ h) (hl : e.1 < x.1) : Found v x m (h + 1) j := fun q e' hq =>
  ⟨fun h1 => by have := srt_at hs hq he (by omega); omega, (hf q e' hq).2⟩
theorem Found.left {v : List Ent} {x e : Ent} {m i j h : Nat} (hf : Found v x m i j) (hs : Srt v) (he : v[h - m]? = some e) (hm : m ≤ h) (hl : ¬ e.1 < x.1) : Found v x m i h := fun q e' hq =>
  ⟨(hf q e' hq).1, fun h1 => by have := srt_at hs he hq (by omega); omega⟩

set_option maxRecDepth 100000 in
set_option maxHeartbeats 6400000 in
theorem sym_one (g cap n a m b : Nat) (P v Q : List Ent) (x : Ent) (w : World) (h : Row w g cap n (P ++ x :: (v ++ Q))) (hn : n ≤ 1000000) (hP : P.length = a) (hm : a + 1 = m) (hb : m + v.length = b) (hs : Srt v) (hv : 0 < v.length) :
    Calls Try.prog 35 #[.slice (some ⟨g, 0, none⟩) n cap, .int .i64 a, .int .i64 m, .int .i64 b, cmpF] w fun e w' => e = .returned (.tuple #[]) ∧ Sorted g cap n P (x :: v) Q w' ∧ Kept (fun i => i = g) w w' := by
  have hlen := h.1
  simp only [List.length_append, List.length_cons] at hlen
  have hbn : b ≤ n := by omega
  have hmb : m < b := by omega
  have hw1 : (m : Int) - (a : Int) = 1 := by omega
  have H0 : Hid (CmpC g cap n (P ++ x :: (v ++ Q)) w w) := Lib.hid ⟨h, Kept.refl _ _⟩
  have HX : Hid ((P ++ x :: (v ++ Q))[a]? = some x) := Lib.hid (by rw [List.getElem?_append_right (by omega), hP, Nat.sub_self]; rfl)
  have HV : Hid (∀ k, m ≤ k → k < b → ∃ e, v[k - m]? = some e ∧ (P ++ x :: (v ++ Q))[k]? = some e) := Lib.hid (fun k h1 h2 => by
    refine ⟨_, List.getElem?_eq_getElem (by omega), ?_⟩
    rw [List.getElem?_append_right (by omega), show k - P.length = (k - m) + 1 by omega, List.getElem?_cons_succ, List.getElem?_append_left (by omega)]
    exact List.getElem?_eq_getElem (by omega))
  have HP := Lib.hid hP
  have HB := Lib.hid hb
  have HS := Lib.hid hs
  have HF0 : Hid (Found v x m m b) := Lib.hid (fun q e hq => ⟨fun h1 => by omega, fun h1 => by have := (List.getElem?_eq_some_iff.1 hq).1; omega⟩)
  have ha1 : ¬ (a : Int) < 0 := by omega
  have ha2 : ¬ (n : Int) ≤ (a : Int) := by omega
  have ha3 : (a : Int) < (n : Int) := by omega
  clear h hP hb hs hv hlen
  obtain ⟨fv, hfv⟩ : ∃ fv, cmpF = fv := ⟨_, rfl⟩
  rw [hfv]
  have HF := Lib.hid hfv
  clear hfv
  go_enter Try.func35, Try.ntmps35
  go_wp2
  go_loopw [10, 11] (fun s10 s11 wr => ∃ i j : Nat, m ≤ i ∧ i ≤ j ∧ j ≤ b ∧ s10 = .int .i64 i ∧ s11 = .int .i64 j ∧ Hid (Found v x m i j) ∧ Hid (CmpC g cap n (P ++ x :: (v ++ Q)) w wr)) (fun s10 s11 _ => (intOf s11).toNat - (intOf s10).toNat)
  case atStart => exact ⟨m, b, by omega, by omega, by omega, rfl, rfl, HF0, H0⟩
  case round =>
    clear H0 HF0
    obtain ⟨i, j, h1, h2, h3, rfl, rfl, HFo, HC⟩ := hrel
    by_cases hlt : i < j
    · have hlt' : (i : Int) < (j : Int) := by omega
      obtain ⟨h, hh⟩ : ∃ h : Nat, (i + j) / 2 = h := ⟨_, rfl⟩
      have hh1 : ((i : Int) + (j : Int)) / 2 = (h : Int) := by omega
      have hih : i ≤ h := by omega
      have hhj : h < j := by omega
      obtain ⟨e, he, hle⟩ := HV.out h (by omega) (by omega)
      have HE := Lib.hid he
      have HL := Lib.hid hle
      have hh1 : ¬ (h : Int) < 0 := by omega
      have hh2 : ¬ (n : Int) ≤ (h : Int) := by omega
      have hh3 : (h : Int) < (n : Int) := by omega
      clear he hle hh
      by_cases hc : e.1 < x.1
      · have hcm : decide (cmpI e.1 x.1 < 0) = true := decide_eq_true (cmpI_lt.2 hc)
        have HN := Lib.hid (HFo.out.right HS.out HE.out (by omega) hc)
        clear hc
        go_wp2
        have hcc : CmpC g cap n (P ++ x :: (v ++ Q)) w wr.drew := ⟨HC.out.1.drew, HC.out.2.drew⟩
        refine wp_region_class (CmpC g cap n (P ++ x :: (v ++ Q)) w) (by kernel_rfl) (by kernel_rfl) hcc ?_
        clear hcc
        iterate 4 (go_big_quiet_step ((intros; rfl)))
        refine q_elem e rfl rfl rfl HL.out ?_
        simp only [Act.put, List.setIfInBounds_toArray, List.set_cons_zero, List.set_cons_succ]
        iterate 3 (go_big_quiet_step ((intros; rfl)))
        refine q_elem x rfl rfl rfl HX.out ?_
        simp only [Act.put, List.setIfInBounds_toArray, List.set_cons_zero, List.set_cons_succ]
        refine q_cmp e x rfl HF.out.symm rfl rfl ?_
        simp only [Act.put, List.setIfInBounds_toArray, List.set_cons_zero, List.set_cons_succ]
        iterate 1 (go_big_quiet_step ((intros; rfl)))
        refine wpQuiet_nil ?_
        intro w2 hC0
        have hC := Lib.hid hC0
        clear hC0
        go_wp2
        go_roundw
        case rel => exact ⟨h + 1, j, by omega, by omega, by omega, by go_num, rfl, HN, hC⟩
        case measure => simp [intOf] <;> omega
      · have hcm : decide (cmpI e.1 x.1 < 0) = false := decide_eq_false (fun h => hc (cmpI_lt.1 h))
        have HN := Lib.hid (HFo.out.left HS.out HE.out (by omega) hc)
        clear hc
        go_wp2
        have hcc : CmpC g cap n (P ++ x :: (v ++ Q)) w wr.drew := ⟨HC.out.1.drew, HC.out.2.drew⟩
        refine wp_region_class (CmpC g cap n (P ++ x :: (v ++ Q)) w) (by kernel_rfl) (by kernel_rfl) hcc ?_
        clear hcc
        iterate 4 (go_big_quiet_step ((intros; rfl)))
        refine q_elem e rfl rfl rfl HL.out ?_
        simp only [Act.put, List.setIfInBounds_toArray, List.set_cons_zero, List.set_cons_succ]
        iterate 3 (go_big_quiet_step ((intros; rfl)))
        refine q_elem x rfl rfl rfl HX.out ?_
        simp only [Act.put, List.setIfInBounds_toArray, List.set_cons_zero, List.set_cons_succ]
        refine q_cmp e x rfl HF.out.symm rfl rfl ?_
        simp only [Act.put, List.setIfInBounds_toArray, List.set_cons_zero, List.set_cons_succ]
        iterate 1 (go_big_quiet_step ((intros; rfl)))
        refine wpQuiet_nil ?_
        intro w2 hC0
        have hC := Lib.hid hC0
        clear hC0
        go_wp2
        go_roundw
        case rel => exact ⟨i, h, by omega, by omega, by omega, rfl, rfl, HN, hC⟩
        case measure => simp [intOf] <;> omega
    · obtain rfl : i = j := by omega
      obtain ⟨ip, hip⟩ : ∃ ip : Nat, i = ip + 1 := ⟨i - 1, by omega⟩
      have hwi : (i : Int) - 1 = (ip : Int) := by omega
      obtain ⟨v1, v2, hv12, hv1, c1, c2⟩ : ∃ v1 v2, v = v1 ++ v2 ∧ v1.length = i - m ∧ (∀ e ∈ v1, e.1 < x.1) ∧ ∀ e ∈ v2, x.1 ≤ e.1 :=
        ⟨v.take (i - m), v.drop (i - m), (List.take_append_drop _ _).symm, by have := HB.out; rw [List.length_take]; omega, split_lt (fun q e hq hk => (HFo.out q e hq).1 (by omega)), split_ge (fun q e hq hk => (HFo.out q e hq).2 (by omega))⟩
      have hms := merge_one (by rw [← hv12]; exact HS.out) c1 c2
      have HM : Hid (Srt (v1 ++ x :: v2) ∧ Stab (x :: v) (v1 ++ x :: v2)) := Lib.hid (by rw [hv12]; exact hms)
      have hv1' : a + v1.length = ip := by omega
      have HR : Hid (∃ t, t ≤ v1.length ∧ a + t = a ∧ Row wr g cap n (P ++ v1.take t ++ x :: (v1.drop t ++ v2 ++ Q))) := Lib.hid ⟨0, by omega, rfl, by have := HC.out.1; rw [hv12] at this; simpa using this⟩
      have HV1 := Lib.hid hv1'
      have hk0 := HC.out.2
      have hai : a ≤ ip := by omega
      have hipn : ip < n := by omega
      have hlt' : ¬ (i : Int) < (i : Int) := by omega
      clear HC HFo hv12 hv1 c1 c2 hms hv1' hip hlt
      go_wp2
      go_loopw [13] (fun s13 wr => ∃ k : Nat, a ≤ k ∧ k ≤ ip ∧ s13 = .int .i64 k ∧ Hid (∃ t, t ≤ v1.length ∧ a + t = k ∧ Row wr g cap n (P ++ v1.take t ++ x :: (v1.drop t ++ v2 ++ Q))) ∧ Kept (fun i => i = g) w wr) (fun s13 _ => ip - (intOf s13).toNat)
      case atStart => exact ⟨a, by omega, by omega, rfl, HR, hk0⟩
      case round =>
        clear HR hk0
        obtain ⟨k, q1, q2, rfl, HR, HK⟩ := hrel
        obtain ⟨t, ht, hk, hr⟩ := HR.out
        have hv := HV1.out
        by_cases hlt : k < ip
        · have hlt' : (k : Int) < (ip : Int) := by omega
          obtain ⟨y, hy⟩ : ∃ y, v1[t]? = some y := ⟨_, List.getElem?_eq_getElem (by omega)⟩
          have ed : v1.drop t = y :: v1.drop (t + 1) := by rw [List.drop_eq_getElem_cons (by omega), (List.getElem?_eq_some_iff.1 hy).2]
          have et : v1.take (t + 1) = v1.take t ++ [y] := by rw [List.take_add_one, hy]; rfl
          have hr' : Row wr g cap n ((P ++ v1.take t) ++ x :: ([] ++ y :: (v1.drop (t + 1) ++ v2 ++ Q))) := by rw [ed] at hr; simpa using hr
          have hL : (P ++ v1.take t).length = k := by have := HP.out; rw [List.length_append, List.length_take]; omega
          have RX : Hid (wr.drew.rangeAt g (k * 2) (rowE x)) := Lib.hid (hr'.drew.at (by rw [List.getElem?_append_right (by omega), hL, Nat.sub_self]; rfl))
          have RY : Hid (wr.drew.rangeAt g ((k + 1) * 2) (rowE y)) := Lib.hid (hr'.drew.at (by rw [List.getElem?_append_right (by omega), hL, show k + 1 - k = 1 by omega]; rfl))
          obtain ⟨s1, s2, hsw⟩ := Row.swap hr'.drew hL (j := k + 1) (by simp)
          have T1 := Lib.hid s1
          have T2 := Lib.hid s2
          have HSW : Hid (∃ t, t ≤ v1.length ∧ a + t = k + 1 ∧ Row ((wr.drew.setCells g (k * 2) (rowE y)).setCells g ((k + 1) * 2) (rowE x)) g cap n (P ++ v1.take t ++ x :: (v1.drop t ++ v2 ++ Q))) := Lib.hid ⟨t + 1, by omega, by omega, by rw [et]; simpa using hsw⟩
          have hwk : IntKind.i64.wrap ((k : Int) + 1) = (k : Int) + 1 := by rw [IntKind.wrap_i64]; omega
          have hk7 : ((k : Int) + 1).toNat = k + 1 := by omega
          have hk8 : (0 : Int) ≤ (k : Int) + 1 := by omega
          have hk1 : ¬ (k : Int) < 0 := by omega
          have hk2 : ¬ (n : Int) ≤ (k : Int) := by omega
          have hk3 : (k : Int) < (n : Int) := by omega
          have hkk1 : ¬ (k : Int) + 1 < 0 := by omega
          have hkk2 : ¬ (n : Int) ≤ (k : Int) + 1 := by omega
          have hkk3 : (k : Int) + 1 < (n : Int) := by omega
          clear hr hr' hL hsw s1 s2 HR ed et hy hv
          go_wp2
          refine wp_region_first (fun _ => True) 16 16 [] (by kernel_rfl) (by kernel_rfl) trivial ?_
          refine wpQuiet_nil ?_
          refine headF_takes (fun _ => True) (m := 16) (f := 4) [0, 1, 2, 3, 4, 5, 6, 7, 8, 10, 11, 12] (fun _ _ => trivial) (by kernel_rfl) trivial ?_
          simp only [List.filterMap_cons, List.filterMap_nil, List.getElem?_toArray, List.getElem?_cons_zero, List.getElem?_cons_succ]
          show wpQuiet _ _ _ _ [_, _, _, _, _, _, _, _, _, _, _, _] _
          iterate 12 (go_big_quiet_step ((intros; rfl)))
          refine wpQuiet_nil ?_
          refine headF_pair (i := 9) (k := 13) (vi := .agg (cellsE y)) (vk := .agg (cellsE x)) (by kernel_rfl) (by kernel_rfl) (by kernel_rfl) (by omega) (by omega) (by omega) rfl rfl rfl rfl (exec_load_ent y rfl RY.out) (exec_load_ent x rfl RX.out) (exec_load_ent y rfl RY.out) (exec_load_ent x rfl RX.out) rfl trivial ?_
          simp only [Act.put, List.getElem_toArray, List.getElem_cons_zero, List.getElem_cons_succ, List.setIfInBounds_toArray, List.set_cons_zero, List.set_cons_succ]
          refine headF_takes (fun _ => True) (m := 2) (f := 1) [14] (fun _ _ => trivial) (by kernel_rfl) trivial ?_
          simp only [List.filterMap_cons, List.filterMap_nil, List.getElem?_toArray, List.getElem?_cons_zero, List.getElem?_cons_succ]
          show wpQuiet _ _ _ _ [_] _
          go_big_quiet_step ((intros; rfl))
          refine wpQuiet_nil ?_
          refine headF_one (i := 15) (by kernel_rfl) (by omega) ?_
          refine wpOp_at rfl rfl (wp_store_mid 46 (.tmp 75) (.tmp 70) rfl g (k * 2) (cellsE y) rfl rfl T1.out infoE (cellsE_one y) ⟨trivial, ?_⟩)
          show Region.seqB _ _ _ _ _ = true ∧ _
          refine ⟨by kernel_rfl, ?_⟩
          simp only [Act.put, List.getElem_toArray, List.getElem_cons_zero, List.getElem_cons_succ, List.setIfInBounds_toArray, List.set_cons_zero, List.set_cons_succ, List.drop_succ_cons, List.drop_zero]
          go_wp2_with (refine wpList_store_mid rfl 46 _ _ rfl g ((k + 1) * 2) (cellsE x) rfl rfl T2.out infoE (cellsE_one x) ?_)
          refine NoPanic.normal ?_
          go_wp2
          go_roundw
          case rel => exact ⟨k + 1, by omega, by omega, by go_num, HSW, Kept.setCells _ _ _ (Kept.setCells _ _ _ HK.drew (.inl rfl)) (.inl rfl)⟩
          case measure => simp [intOf] <;> omega
        · have hlt' : ¬ (k : Int) < (ip : Int) := by omega
          have hz : Sorted g cap n P (x :: v) Q wr := ⟨v1 ++ x :: v2, HM.out.1, HM.out.2, by
            rw [List.take_of_length_le (by omega), List.drop_of_length_le (by omega)] at hr
            simpa using hr⟩
          have HZ := Lib.hid hz
          clear hr hz HR hv
          go_wp2
          refine bodyPost_ret (results_none rfl _ _ _) rfl ?_
          exact ⟨rfl, HZ.out, HK⟩
end Go.Proofs.Ytinndmglacfofaa
