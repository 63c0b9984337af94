/- slices.symMergeCmpFunc, where the second part is one entry: it goes to its place. (mkmerge.py writes this text.) -/
import Derived.Test.YtinndmglacfofaaMergeA
namespace Go.Proofs.Ytinndmglacfofaa
open Go Go.RowKit Go.Deep
set_option linter.unusedVariables false
set_option linter.unusedSimpArgs false

/-- What the search has found. -/
def FoundB (u : List Ent) (y : Ent) (a i j : Nat) : Prop := ∀ q e, u[q]? = some e → (a + q < i → e.1 ≤ y.1) ∧ (j ≤ a + q → y.1 < e.1)
theorem FoundB.right {u : List Ent} {y e : Ent} {a i j h : Nat} (hf : FoundB u y a i j) (hs : Srt u) (he : u[h - a]? = some e) (hm : a ≤ h) (hl : ¬ y.1 < e.1) : FoundB u y a (h + 1) j := fun q e' hq =>
  ⟨fun h1 => by have := srt_at hs hq he (by omega); omega, (hf q e' hq).2⟩
theorem FoundB.left {u : List Ent} {y e : Ent} {a i j h : Nat} (hf : FoundB u y a i j) (hs : Srt u) (he : u[h - a]? = some e) (hm : a ≤ h) (hl : y.1 < e.1) : FoundB u y a i h := fun q e' hq =>
  ⟨(hf q e' hq).1, fun h1 => by have := srt_at hs he hq (by omega); omega⟩

set_option maxRecDepth 100000 in
set_option maxHeartbeats 6400000 in
theorem sym_last (g cap n a b m : Nat) (P u Q : List Ent) (y : Ent) (w : World) (h : Row w g cap n (P ++ u ++ y :: Q)) (hn : n ≤ 1000000) (hP : P.length = a) (hm : a + u.length = m) (hb : m + 1 = b) (hs : Srt u) (hu : 1 < u.length) :
    Calls Try.prog 35 #[.slice (some ⟨g, 0, none⟩) n cap, .int .i64 a, .int .i64 m, .int .i64 b, cmpF] w fun e w' => e = .returned (.tuple #[]) ∧ Sorted g cap n P (u ++ [y]) Q w' ∧ Kept (fun i => i = g) w w' := by
  have hlen := h.1
  simp only [List.length_append, List.length_cons] at hlen
  have hbn : b ≤ n := by omega
  have ham : a + 1 < m := by omega
  obtain ⟨d, hd⟩ : ∃ d, u.length = d := ⟨_, rfl⟩
  have hw1 : (m : Int) - (a : Int) = (d : Int) := by omega
  have hd1 : ((d : Int) == 1) = false := by simp; omega
  have hw2 : (b : Int) - (m : Int) = 1 := by omega
  have H0 : Hid (CmpC g cap n (P ++ u ++ y :: Q) w w) := Lib.hid ⟨h, Kept.refl _ _⟩
  have HY : Hid ((P ++ u ++ y :: Q)[m]? = some y) := Lib.hid (by rw [List.getElem?_append_right (by simp; omega), show m - (P ++ u).length = 0 by simp; omega]; rfl)
  have HV : Hid (∀ k, a ≤ k → k < m → ∃ e, u[k - a]? = some e ∧ (P ++ u ++ y :: Q)[k]? = some e) := Lib.hid (fun k h1 h2 => by
    refine ⟨_, List.getElem?_eq_getElem (by omega), ?_⟩
    rw [List.append_assoc, List.getElem?_append_right (by omega), hP, List.getElem?_append_left (by omega)]
    exact List.getElem?_eq_getElem (by omega))
  have HP := Lib.hid hP
  have HB := Lib.hid hm
  have HS := Lib.hid hs
  have HF0 : Hid (FoundB u y a a m) := Lib.hid (fun q e hq => ⟨fun h1 => by omega, fun h1 => by have := (List.getElem?_eq_some_iff.1 hq).1; omega⟩)
  have ha1 : ¬ (m : Int) < 0 := by omega
  have ha2 : ¬ (n : Int) ≤ (m : Int) := by omega
  have ha3 : (m : Int) < (n : Int) := by omega
  clear h hP hm hs hu hlen hd
  obtain ⟨fv, hfv⟩ : ∃ fv, cmpF = fv := ⟨_, rfl⟩
  rw [hfv]
  have HF := Lib.hid hfv
  clear hfv
  go_enter Try.func35, Try.ntmps35
  go_wp2
  go_loopw [14, 15] (fun s14 s15 wr => ∃ i j : Nat, a ≤ i ∧ i ≤ j ∧ j ≤ m ∧ s14 = .int .i64 i ∧ s15 = .int .i64 j ∧ Hid (FoundB u y a i j) ∧ Hid (CmpC g cap n (P ++ u ++ y :: Q) w wr)) (fun s14 s15 _ => (intOf s15).toNat - (intOf s14).toNat)
  case atStart => exact ⟨a, m, by omega, by omega, by omega, rfl, rfl, HF0, H0⟩
  case round =>
    clear H0 HF0
    obtain ⟨i, j, h1, h2, h3, rfl, rfl, HFo, HC⟩ := hrel
    by_cases hlt : i < j
    · have hlt' : (i : Int) < (j : Int) := by omega
      obtain ⟨h, hh⟩ : ∃ h : Nat, (i + j) / 2 = h := ⟨_, rfl⟩
      have hh1 : ((i : Int) + (j : Int)) / 2 = (h : Int) := by omega
      have hih : i ≤ h := by omega
      have hhj : h < j := by omega
      obtain ⟨e, he, hle⟩ := HV.out h (by omega) (by omega)
      have HE := Lib.hid he
      have HL := Lib.hid hle
      have hh1 : ¬ (h : Int) < 0 := by omega
      have hh2 : ¬ (n : Int) ≤ (h : Int) := by omega
      have hh3 : (h : Int) < (n : Int) := by omega
      clear he hle hh
      by_cases hc : y.1 < e.1
      · have hcm : decide (cmpI y.1 e.1 < 0) = true := decide_eq_true (cmpI_lt.2 hc)
        have HN := Lib.hid (HFo.out.left HS.out HE.out (by omega) hc)
        clear hc
        go_wp2
        have hcc : CmpC g cap n (P ++ u ++ y :: Q) w wr.drew := ⟨HC.out.1.drew, HC.out.2.drew⟩
        refine wp_region_class (CmpC g cap n (P ++ u ++ y :: Q) w) (by kernel_rfl) (by kernel_rfl) hcc ?_
        clear hcc
        iterate 4 (go_big_quiet_step ((intros; rfl)))
        refine q_elem y rfl rfl rfl HY.out ?_
        simp only [Act.put, List.setIfInBounds_toArray, List.set_cons_zero, List.set_cons_succ]
        iterate 3 (go_big_quiet_step ((intros; rfl)))
        refine q_elem e rfl rfl rfl HL.out ?_
        simp only [Act.put, List.setIfInBounds_toArray, List.set_cons_zero, List.set_cons_succ]
        refine q_cmp y e rfl HF.out.symm rfl rfl ?_
        simp only [Act.put, List.setIfInBounds_toArray, List.set_cons_zero, List.set_cons_succ]
        iterate 2 (go_big_quiet_step ((intros; rfl)))
        refine wpQuiet_nil ?_
        intro w2 hC0
        have hC := Lib.hid hC0
        clear hC0
        go_wp2
        go_roundw
        case rel => exact ⟨i, h, by omega, by omega, by omega, rfl, rfl, HN, hC⟩
        case measure => simp [intOf] <;> omega
      · have hcm : decide (cmpI y.1 e.1 < 0) = false := decide_eq_false (fun h => hc (cmpI_lt.1 h))
        have HN := Lib.hid (HFo.out.right HS.out HE.out (by omega) hc)
        clear hc
        go_wp2
        have hcc : CmpC g cap n (P ++ u ++ y :: Q) w wr.drew := ⟨HC.out.1.drew, HC.out.2.drew⟩
        refine wp_region_class (CmpC g cap n (P ++ u ++ y :: Q) w) (by kernel_rfl) (by kernel_rfl) hcc ?_
        clear hcc
        iterate 4 (go_big_quiet_step ((intros; rfl)))
        refine q_elem y rfl rfl rfl HY.out ?_
        simp only [Act.put, List.setIfInBounds_toArray, List.set_cons_zero, List.set_cons_succ]
        iterate 3 (go_big_quiet_step ((intros; rfl)))
        refine q_elem e rfl rfl rfl HL.out ?_
        simp only [Act.put, List.setIfInBounds_toArray, List.set_cons_zero, List.set_cons_succ]
        refine q_cmp y e rfl HF.out.symm rfl rfl ?_
        simp only [Act.put, List.setIfInBounds_toArray, List.set_cons_zero, List.set_cons_succ]
        iterate 2 (go_big_quiet_step ((intros; rfl)))
        refine wpQuiet_nil ?_
        intro w2 hC0
        have hC := Lib.hid hC0
        clear hC0
        go_wp2
        go_roundw
        case rel => exact ⟨h + 1, j, by omega, by omega, by omega, by go_num, rfl, HN, hC⟩
        case measure => simp [intOf] <;> omega
    · obtain rfl : i = j := by omega
      obtain ⟨u1, u2, hu12, hu1, c1, c2⟩ : ∃ u1 u2, u = u1 ++ u2 ∧ u1.length = i - a ∧ (∀ e ∈ u1, e.1 ≤ y.1) ∧ ∀ e ∈ u2, y.1 < e.1 :=
        ⟨u.take (i - a), u.drop (i - a), (List.take_append_drop _ _).symm, by have := HB.out; rw [List.length_take]; omega, split_lt (fun q e hq hk => (HFo.out q e hq).1 (by omega)), split_ge (fun q e hq hk => (HFo.out q e hq).2 (by omega))⟩
      have hms := merge_last (by rw [← hu12]; exact HS.out) c1 c2
      have HM : Hid (Srt (u1 ++ y :: u2) ∧ Stab (u ++ [y]) (u1 ++ y :: u2)) := Lib.hid (by rw [hu12]; exact hms)
      have hu2 : i + u2.length = m := by have := HB.out; rw [hu12, List.length_append] at this; omega
      have HR : Hid (∃ t, t ≤ u2.length ∧ i + t = m ∧ Row wr g cap n (P ++ u1 ++ u2.take t ++ y :: (u2.drop t ++ Q))) := Lib.hid ⟨u2.length, by omega, hu2, by have := HC.out.1; rw [hu12] at this; simpa using this⟩
      have HU1 : Hid ((P ++ u1).length = i) := Lib.hid (by have := HP.out; rw [List.length_append]; omega)
      have hk0 := HC.out.2
      have hlt' : ¬ (i : Int) < (i : Int) := by omega
      clear HC HFo hu12 hu1 c1 c2 hms hu2 hlt
      go_wp2
      go_loopw [17] (fun s17 wr => ∃ k : Nat, i ≤ k ∧ k ≤ m ∧ s17 = .int .i64 k ∧ Hid (∃ t, t ≤ u2.length ∧ i + t = k ∧ Row wr g cap n (P ++ u1 ++ u2.take t ++ y :: (u2.drop t ++ Q))) ∧ Kept (fun i => i = g) w wr) (fun s17 _ => (intOf s17).toNat)
      case atStart => exact ⟨m, by omega, by omega, rfl, HR, hk0⟩
      case round =>
        clear HR hk0
        obtain ⟨k, q1, q2, rfl, HR, HK⟩ := hrel
        obtain ⟨t, ht, hk, hr⟩ := HR.out
        by_cases hlt : i < k
        · obtain ⟨t', rfl⟩ : ∃ t', t = t' + 1 := ⟨t - 1, by omega⟩
          obtain ⟨kp, rfl⟩ : ∃ kp, k = kp + 1 := ⟨k - 1, by omega⟩
          have hlt' : (i : Int) < (kp : Int) + 1 := by omega
          obtain ⟨x, hx⟩ : ∃ x, u2[t']? = some x := ⟨_, List.getElem?_eq_getElem (by omega)⟩
          have ed : u2.drop t' = x :: u2.drop (t' + 1) := by rw [List.drop_eq_getElem_cons (by omega), (List.getElem?_eq_some_iff.1 hx).2]
          have et : u2.take (t' + 1) = u2.take t' ++ [x] := by rw [List.take_add_one, hx]; rfl
          have hr' : Row wr g cap n ((P ++ u1 ++ u2.take t') ++ x :: ([] ++ y :: (u2.drop (t' + 1) ++ Q))) := by rw [et] at hr; simpa using hr
          have hL : (P ++ u1 ++ u2.take t').length = kp := by have := HU1.out; rw [List.length_append, List.length_take]; omega
          have RX : Hid (wr.drew.rangeAt g (kp * 2) (rowE x)) := Lib.hid (hr'.drew.at (by rw [List.getElem?_append_right (by omega), hL, Nat.sub_self]; rfl))
          have RY : Hid (wr.drew.rangeAt g ((kp + 1) * 2) (rowE y)) := Lib.hid (hr'.drew.at (by rw [List.getElem?_append_right (by omega), hL, show kp + 1 - kp = 1 by omega]; rfl))
          obtain ⟨s1, s2, hsw⟩ := Row.swap' hr'.drew hL (j := kp + 1) (by simp)
          have T1 := Lib.hid s1
          have T2 := Lib.hid s2
          have HSW : Hid (∃ t, t ≤ u2.length ∧ i + t = kp ∧ Row ((wr.drew.setCells g ((kp + 1) * 2) (rowE x)).setCells g (kp * 2) (rowE y)) g cap n (P ++ u1 ++ u2.take t ++ y :: (u2.drop t ++ Q))) := Lib.hid ⟨t', by omega, by omega, by rw [ed]; simpa using hsw⟩
          have hwk : IntKind.i64.wrap ((kp : Int) + 1 - 1) = (kp : Int) := by rw [IntKind.wrap_i64]; omega
          have hwk2 : (kp : Int) + 1 - 1 = (kp : Int) := by omega
          have hk7 : ((kp : Int) + 1).toNat = kp + 1 := by omega
          have hk8 : (0 : Int) ≤ (kp : Int) + 1 := by omega
          have hk1 : ¬ (kp : Int) < 0 := by omega
          have hk2 : ¬ (n : Int) ≤ (kp : Int) := by omega
          have hk3 : (kp : Int) < (n : Int) := by omega
          have hkk1 : ¬ (kp : Int) + 1 < 0 := by omega
          have hkk2 : ¬ (n : Int) ≤ (kp : Int) + 1 := by omega
          have hkk3 : (kp : Int) + 1 < (n : Int) := by omega
          clear hr hr' hL hsw s1 s2 HR ed et hx
          go_wp2
          refine wp_region_first (fun _ => True) 16 16 [] (by kernel_rfl) (by kernel_rfl) trivial ?_
          refine wpQuiet_nil ?_
          refine headF_takes (fun _ => True) (m := 16) (f := 4) [0, 1, 2, 3, 4, 5, 6, 7, 8, 10, 11, 12] (fun _ _ => trivial) (by kernel_rfl) trivial ?_
          simp only [List.filterMap_cons, List.filterMap_nil, List.getElem?_toArray, List.getElem?_cons_zero, List.getElem?_cons_succ]
          show wpQuiet _ _ _ _ [_, _, _, _, _, _, _, _, _, _, _, _] _
          iterate 12 (go_big_quiet_step ((intros; rfl)))
          refine wpQuiet_nil ?_
          refine headF_pair (i := 9) (k := 13) (vi := .agg (cellsE x)) (vk := .agg (cellsE y)) (by kernel_rfl) (by kernel_rfl) (by kernel_rfl) (by omega) (by omega) (by omega) rfl rfl rfl rfl (exec_load_ent x rfl RX.out) (exec_load_ent y rfl RY.out) (exec_load_ent x rfl RX.out) (exec_load_ent y rfl RY.out) rfl trivial ?_
          simp only [Act.put, List.getElem_toArray, List.getElem_cons_zero, List.getElem_cons_succ, List.setIfInBounds_toArray, List.set_cons_zero, List.set_cons_succ]
          refine headF_takes (fun _ => True) (m := 2) (f := 1) [14] (fun _ _ => trivial) (by kernel_rfl) trivial ?_
          simp only [List.filterMap_cons, List.filterMap_nil, List.getElem?_toArray, List.getElem?_cons_zero, List.getElem?_cons_succ]
          show wpQuiet _ _ _ _ [_] _
          go_big_quiet_step ((intros; rfl))
          refine wpQuiet_nil ?_
          refine headF_one (i := 15) (by kernel_rfl) (by omega) ?_
          refine wpOp_at rfl rfl (wp_store_mid 46 (.tmp 127) (.tmp 122) rfl g ((kp + 1) * 2) (cellsE x) rfl rfl T1.out infoE (cellsE_one x) ⟨trivial, ?_⟩)
          show Region.seqB _ _ _ _ _ = true ∧ _
          refine ⟨by kernel_rfl, ?_⟩
          simp only [Act.put, List.getElem_toArray, List.getElem_cons_zero, List.getElem_cons_succ, List.setIfInBounds_toArray, List.set_cons_zero, List.set_cons_succ, List.drop_succ_cons, List.drop_zero]
          go_wp2_with (refine wpList_store_mid rfl 46 _ _ rfl g (kp * 2) (cellsE y) rfl rfl T2.out infoE (cellsE_one y) ?_)
          refine NoPanic.normal ?_
          go_wp2
          go_roundw
          case rel => exact ⟨kp, by omega, by omega, by go_num, HSW, Kept.setCells _ _ _ (Kept.setCells _ _ _ HK.drew (.inl rfl)) (.inl rfl)⟩
          case measure => simp [intOf] <;> omega
        · have hlt' : ¬ (i : Int) < (k : Int) := by omega
          have hz : Sorted g cap n P (u ++ [y]) Q wr := ⟨u1 ++ y :: u2, HM.out.1, HM.out.2, by
            obtain rfl : t = 0 := by omega
            simpa using hr⟩
          have HZ := Lib.hid hz
          clear hr hz HR
          go_wp2
          refine bodyPost_ret (results_none rfl _ _ _) rfl ?_
          exact ⟨rfl, HZ.out, HK⟩
end Go.Proofs.Ytinndmglacfofaa
