/- slices.insertionSortCmpFunc: a part of the row is sorted, equal epochs in their order. (mkins.py writes this text.) -/
import Derived.Test.YtinndmglacfofaaCmp
namespace Go.Proofs.Ytinndmglacfofaa
open Go Go.RowKit Go.Deep
set_option linter.unusedVariables false
set_option linter.unusedSimpArgs false

/-- What the inner loop has done: x has gone by t2. -/
structure Ins (t1 t2 : List Ent) (x : Ent) (t : List Ent) : Prop where
  eq : t = t1 ++ t2
  gt : ∀ e ∈ t2, x.1 < e.1
theorem Ins.done {t1 t2 t : List Ent} {x : Ent} (h : Ins t1 t2 x t) (hs : Srt t) (hl : ∀ e ∈ t1, e.1 ≤ x.1) : Srt (t1 ++ x :: t2) ∧ Stab (t ++ [x]) (t1 ++ x :: t2) := by
  obtain ⟨rfl, hg⟩ := h
  exact merge_last hs hl hg
theorem Ins.step {t1 t2 t : List Ent} {x y : Ent} (h : Ins (t1 ++ [y]) t2 x t) (hl : x.1 < y.1) : Ins t1 (y :: t2) x t :=
  ⟨by rw [h.eq]; simp, fun e he => by
    rcases List.mem_cons.1 he with rfl | he
    · exact hl
    · exact h.gt e he⟩
theorem Ins.stop {t1 t2 t : List Ent} {x y : Ent} (h : Ins (t1 ++ [y]) t2 x t) (hs : Srt t) (hl : y.1 ≤ x.1) : ∀ e ∈ t1 ++ [y], e.1 ≤ x.1 := by
  have h1 := h.eq
  rw [h1, List.append_assoc, srt_append] at hs
  intro e he
  rcases List.mem_append.1 he with he | he
  · have := hs.2.2 e he y (by simp); omega
  · rw [List.mem_singleton.1 he]; exact hl
/-- What the outer loop has done. -/
structure Outer (u t rest : List Ent) (a i : Nat) : Prop where
  st : Stab u (t ++ rest)
  so : Srt t
  at_ : i = a + max 1 t.length
  no : t = [] → u = []
theorem Outer.next {u t rest t' : List Ent} {x : Ent} {a i : Nat} (h : Outer u t (x :: rest) a i) (hs : Srt t') (hb : Stab (t ++ [x]) t') : Outer u t' rest a (i + 1) := by
  have hl := hb.len
  have ht : t ≠ [] := fun e => by
    have := h.st.len
    rw [h.no e, e] at this
    simp at this
  have h1 : 1 ≤ t.length := by cases t with | nil => exact absurd rfl ht | cons _ _ => simp
  have h2 := h.at_
  rw [List.length_append, List.length_singleton] at hl
  refine ⟨h.st.trans ?_, hs, by omega, fun e => by rw [e] at hl; simp at hl⟩
  have := hb.append (Stab.refl rest)
  simpa using this

/-- The part u of the row is sorted. -/
def Sorted (g cap n : Nat) (P u Q : List Ent) (w : World) : Prop := ∃ t, Srt t ∧ Stab u t ∧ Row w g cap n (P ++ t ++ Q)
set_option maxHeartbeats 3200000 in
theorem insertion_any (g cap n a b : Nat) (P u Q : List Ent) (w : World) (h : Row w g cap n (P ++ u ++ Q)) (hn : n ≤ 1000000) (ha : P.length = a) (hb : a + u.length = b) :
    Calls Try.prog 34 #[.slice (some ⟨g, 0, none⟩) n cap, .int .i64 a, .int .i64 b, cmpF] w fun e w' => e = .returned (.tuple #[]) ∧ Sorted g cap n P u Q w' ∧ Kept (fun i => i = g) w w' := by
  have hlen := h.1
  simp only [List.length_append] at hlen
  have hbn : b ≤ n := by omega
  have hab : a ≤ b := by omega
  have H0 : Hid (∃ t rest, Outer u t rest a (a + 1) ∧ Row w g cap n (P ++ t ++ rest ++ Q)) := Lib.hid (by
    cases u with
    | nil => exact ⟨[], [], ⟨Stab.refl _, srt_nil, rfl, fun _ => rfl⟩, by simpa using h⟩
    | cons x u => exact ⟨[x], u, ⟨Stab.refl _, srt_one x, rfl, fun e => by cases e⟩, by simpa using h⟩)
  have HP := Lib.hid ha
  have HB := Lib.hid hb
  clear h hlen ha hb
  obtain ⟨fv, hfv⟩ : ∃ fv, cmpF = fv := ⟨_, rfl⟩
  rw [hfv]
  have HF := Lib.hid hfv
  clear hfv
  go_enter Try.func34, Try.ntmps34
  go_wp2
  go_loopw [8] (fun s8 wr => ∃ i : Nat, a < i ∧ i ≤ b + 1 ∧ s8 = .int .i64 i ∧ Hid (∃ t rest, Outer u t rest a i ∧ Row wr g cap n (P ++ t ++ rest ++ Q)) ∧ Kept (fun i => i = g) w wr) (fun s8 _ => b + 1 - (intOf s8).toNat)
  case atStart => exact ⟨a + 1, by omega, by have := HB.out; omega, by go_num, H0, Kept.refl _ _⟩
  case round =>
    clear H0
    obtain ⟨i, hai, hib, rfl, HR, HK⟩ := hrel
    obtain ⟨t, rest, ho, hr⟩ := HR.out
    clear HR
    have hst := ho.st.len
    have hat := ho.at_
    rw [List.length_append] at hst
    have hub := HB.out
    by_cases hlt : i < b
    · have htn : t ≠ [] := fun e => by rw [ho.no e] at hub; simp at hub; omega
      have ht1 : 1 ≤ t.length := by cases t with | nil => exact absurd rfl htn | cons _ _ => simp
      obtain ⟨x, rest', rfl⟩ : ∃ x r, rest = x :: r := by
        cases rest with
        | nil => simp at hst; omega
        | cons x r => exact ⟨x, r, rfl⟩
      have hti : a + t.length = i := by omega
      have H1 : Hid (∃ t1 t2, Ins t1 t2 x t ∧ a + t1.length = i ∧ Row wr g cap n (P ++ t1 ++ x :: (t2 ++ rest' ++ Q))) := Lib.hid ⟨t, [], ⟨by simp, by simp⟩, hti, by simpa using hr⟩
      have HO := Lib.hid ho
      have HS := Lib.hid ho.so
      clear hr ho hst hat htn ht1 hti
      have hltz : (i : Int) < (b : Int) := by omega
      go_wp2
      go_loopw [9] (fun s9 wi => ∃ j : Nat, a ≤ j ∧ j ≤ i ∧ s9 = .int .i64 j ∧ Hid (∃ t1 t2, Ins t1 t2 x t ∧ a + t1.length = j ∧ Row wi g cap n (P ++ t1 ++ x :: (t2 ++ rest' ++ Q))) ∧ Kept (fun i => i = g) w wi) (fun s9 _ => (intOf s9).toNat)
      case atStart => exact ⟨i, by omega, by omega, rfl, H1, HK⟩
      case round =>
        clear H1 HK
        obtain ⟨j, haj, hji, rfl, HR, HK⟩ := hrel
        obtain ⟨t1, t2, hins, hj, hr⟩ := HR.out
        clear HR
        have hP := HP.out
        by_cases hja : a < j
        · obtain ⟨y, t1', rfl⟩ : ∃ y t', t1 = t' ++ [y] := by
            have : t1 ≠ [] := fun e => by rw [e] at hj; simp at hj; omega
            exact ⟨t1.getLast this, t1.dropLast, (List.dropLast_concat_getLast this).symm⟩
          obtain ⟨jp, rfl⟩ : ∃ jp, j = jp + 1 := ⟨j - 1, by omega⟩
          rw [List.length_append, List.length_singleton] at hj
          have hLl : (P ++ t1').length = jp := by rw [List.length_append]; omega
          have hr' : Row wr g cap n ((P ++ t1') ++ y :: ([] ++ x :: (t2 ++ rest' ++ Q))) := by simpa using hr
          have ex : ((P ++ t1') ++ y :: ([] ++ x :: (t2 ++ rest' ++ Q)))[jp + 1]? = some x := by rw [List.getElem?_append_right (by omega), hLl, show jp + 1 - jp = 1 by omega]; rfl
          have ey : ((P ++ t1') ++ y :: ([] ++ x :: (t2 ++ rest' ++ Q)))[jp]? = some y := by rw [List.getElem?_append_right (by omega), hLl, Nat.sub_self]; rfl
          have EX := Lib.hid ex
          have EY := Lib.hid ey
          have HR := Lib.hid hr'
          have hin : i < n := by omega
          have hwj : IntKind.i64.wrap ((jp : Int) + 1 - 1) = (jp : Int) := by rw [IntKind.wrap_i64]; omega
          have hw2 : (jp : Int) + 1 - 1 = (jp : Int) := by omega
          have hj1 : ¬ (jp : Int) + 1 < 0 := by omega
          have hj2 : ¬ (n : Int) ≤ (jp : Int) + 1 := by omega
          have hj3 : (jp : Int) + 1 < (n : Int) := by omega
          have hj4 : ¬ (jp : Int) < 0 := by omega
          have hj5 : ¬ (n : Int) ≤ (jp : Int) := by omega
          have hj6 : (jp : Int) < (n : Int) := by omega
          have hj7 : ((jp : Int) + 1).toNat = jp + 1 := by omega
          have hj8 : (0 : Int) ≤ (jp : Int) + 1 := by omega
          have hg1 : (a : Int) < (jp : Int) + 1 := by omega
          have hg2 : decide ((a : Int) < (jp : Int) + 1) = true := by simpa using hg1
          have hgt : Hid (Ins (t1' ++ [y]) t2 x t) := Lib.hid hins
          have HLL := Lib.hid hLl
          have HJ := Lib.hid hj
          clear hr hr' ex ey hins hj hLl hub hP
          by_cases hc : x.1 < y.1
          · have hcm : decide (cmpI x.1 y.1 < 0) = true := decide_eq_true (cmpI_lt.2 hc)
            have HC := Lib.hid hc
            clear hc
            go_wp2
            have hcc : CmpC g cap n ((P ++ t1') ++ y :: ([] ++ x :: (t2 ++ rest' ++ Q))) w wr.drew := ⟨HR.out.drew, HK.drew⟩
            refine wp_region_class (CmpC g cap n ((P ++ t1') ++ y :: ([] ++ x :: (t2 ++ rest' ++ Q))) w) (by kernel_rfl) (by kernel_rfl) hcc ?_
            clear hcc
            iterate 8 (go_big_quiet_step ((intros; rfl)))
            refine q_elem x rfl rfl rfl EX.out ?_
            simp only [Act.put, List.setIfInBounds_toArray, List.set_cons_zero, List.set_cons_succ]
            iterate 4 (go_big_quiet_step ((intros; rfl)))
            refine q_elem y rfl rfl rfl EY.out ?_
            simp only [Act.put, List.setIfInBounds_toArray, List.set_cons_zero, List.set_cons_succ]
            refine q_cmp x y rfl HF.out.symm rfl rfl ?_
            simp only [Act.put, List.setIfInBounds_toArray, List.set_cons_zero, List.set_cons_succ]
            iterate 2 (go_big_quiet_step ((intros; rfl)))
            refine wpQuiet_nil ?_
            intro w2 hC0
            have hC := Lib.hid hC0
            clear hC0
            obtain ⟨s1, s2, hsw⟩ := Row.swap' hC.out.1.drew HLL.out (j := jp + 1) (by simp)
            have T1 := Lib.hid s1
            have T2 := Lib.hid s2
            have HSW := Lib.hid hsw
            have RX : Hid (w2.drew.rangeAt g ((jp + 1) * 2) (rowE x)) := Lib.hid (hC.out.1.drew.at EX.out)
            have RY : Hid (w2.drew.rangeAt g (jp * 2) (rowE y)) := Lib.hid (hC.out.1.drew.at EY.out)
            have HK2 := Lib.hid hC.out.2
            clear s1 s2 hsw hC
            go_wp2
            refine wp_region_first (fun _ => True) 16 16 [] (by kernel_rfl) (by kernel_rfl) trivial ?_
            refine wpQuiet_nil ?_
            refine headF_takes (fun _ => True) (m := 16) (f := 4) [0, 1, 2, 3, 4, 5, 6, 7, 8, 10, 11, 12] (fun _ _ => trivial) (by kernel_rfl) trivial ?_
            simp only [List.filterMap_cons, List.filterMap_nil, List.getElem?_toArray, List.getElem?_cons_zero, List.getElem?_cons_succ]
            show wpQuiet _ _ _ _ [_, _, _, _, _, _, _, _, _, _, _, _] _
            iterate 12 (go_big_quiet_step ((intros; rfl)))
            refine wpQuiet_nil ?_
            refine headF_pair (i := 9) (k := 13) (vi := .agg (cellsE y)) (vk := .agg (cellsE x)) (by kernel_rfl) (by kernel_rfl) (by kernel_rfl) (by omega) (by omega) (by omega) rfl rfl rfl rfl (exec_load_ent y rfl RY.out) (exec_load_ent x rfl RX.out) (exec_load_ent y rfl RY.out) (exec_load_ent x rfl RX.out) rfl trivial ?_
            simp only [Act.put, List.getElem_toArray, List.getElem_cons_zero, List.getElem_cons_succ, List.setIfInBounds_toArray, List.set_cons_zero, List.set_cons_succ]
            refine headF_takes (fun _ => True) (m := 2) (f := 1) [14] (fun _ _ => trivial) (by kernel_rfl) trivial ?_
            simp only [List.filterMap_cons, List.filterMap_nil, List.getElem?_toArray, List.getElem?_cons_zero, List.getElem?_cons_succ]
            show wpQuiet _ _ _ _ [_] _
            go_big_quiet_step ((intros; rfl))
            refine wpQuiet_nil ?_
            refine headF_one (i := 15) (by kernel_rfl) (by omega) ?_
            refine wpOp_at rfl rfl (wp_store_mid 46 (.tmp 51) (.tmp 46) rfl g ((jp + 1) * 2) (cellsE y) rfl rfl T1.out infoE (cellsE_one y) ⟨trivial, ?_⟩)
            show Region.seqB _ _ _ _ _ = true ∧ _
            refine ⟨by kernel_rfl, ?_⟩
            simp only [Act.put, List.getElem_toArray, List.getElem_cons_zero, List.getElem_cons_succ, List.setIfInBounds_toArray, List.set_cons_zero, List.set_cons_succ, List.drop_succ_cons, List.drop_zero]
            go_wp2_with (refine wpList_store_mid rfl 46 _ _ rfl g (jp * 2) (cellsE x) rfl rfl T2.out infoE (cellsE_one x) ?_)
            refine NoPanic.normal ?_
            go_wp2
            go_roundw
            case rel =>
              refine ⟨jp, by omega, by omega, by go_num, Lib.hid ⟨t1', y :: t2, hgt.out.step HC.out, by have := HJ.out; omega, ?_⟩, Kept.setCells _ _ _ (Kept.setCells _ _ _ HK2.out.drew (.inl rfl)) (.inl rfl)⟩
              have hz := HSW.out
              rw [show (P ++ t1') ++ x :: ([] ++ y :: (t2 ++ rest' ++ Q)) = P ++ t1' ++ x :: (y :: t2 ++ rest' ++ Q) by simp] at hz
              exact hz
            case measure => simp [intOf] <;> omega
          · have hcm : decide (cmpI x.1 y.1 < 0) = false := decide_eq_false (fun h => hc (cmpI_lt.1 h))
            have hstop := hgt.out.done HS.out (hgt.out.stop HS.out (by omega))
            have HN := Lib.hid (HO.out.next hstop.1 hstop.2)
            clear hc hstop
            go_wp2
            have hcc : CmpC g cap n ((P ++ t1') ++ y :: ([] ++ x :: (t2 ++ rest' ++ Q))) w wr.drew := ⟨HR.out.drew, HK.drew⟩
            refine wp_region_class (CmpC g cap n ((P ++ t1') ++ y :: ([] ++ x :: (t2 ++ rest' ++ Q))) w) (by kernel_rfl) (by kernel_rfl) hcc ?_
            clear hcc
            iterate 8 (go_big_quiet_step ((intros; rfl)))
            refine q_elem x rfl rfl rfl EX.out ?_
            simp only [Act.put, List.setIfInBounds_toArray, List.set_cons_zero, List.set_cons_succ]
            iterate 4 (go_big_quiet_step ((intros; rfl)))
            refine q_elem y rfl rfl rfl EY.out ?_
            simp only [Act.put, List.setIfInBounds_toArray, List.set_cons_zero, List.set_cons_succ]
            refine q_cmp x y rfl HF.out.symm rfl rfl ?_
            simp only [Act.put, List.setIfInBounds_toArray, List.set_cons_zero, List.set_cons_succ]
            iterate 2 (go_big_quiet_step ((intros; rfl)))
            refine wpQuiet_nil ?_
            intro w2 hC0
            have hC := Lib.hid hC0
            clear hC0
            have HZ : Hid (∃ t rest, Outer u t rest a (i + 1) ∧ Row w2 g cap n (P ++ t ++ rest ++ Q)) := Lib.hid ⟨_, rest', HN.out, by
              have hz := hC.out.1
              rw [show (P ++ t1') ++ y :: ([] ++ x :: (t2 ++ rest' ++ Q)) = P ++ (t1' ++ [y] ++ x :: t2) ++ rest' ++ Q by simp] at hz
              exact hz⟩
            have HK2 := hC.out.2
            clear hC HN
            go_wp2
            go_roundw
            case rel => exact ⟨i + 1, by omega, by omega, by go_num, HZ, HK2⟩
            case measure => simp [intOf] <;> omega
        · have HJA : Hid (j = a) := Lib.hid (by omega)
          have hnil : t1 = [] := List.eq_nil_of_length_eq_zero (by omega)
          subst hnil
          have hstop := hins.done HS.out (fun e he => by simp at he)
          have HN := Lib.hid (HO.out.next hstop.1 hstop.2)
          have HR := Lib.hid hr
          have hg1 : ¬ (a : Int) < (j : Int) := by omega
          have hg2 : decide (a < j) = false := decide_eq_false hja
          clear hr hins hj hstop hub hP hja haj
          go_wp2
          have hcc : CmpC g cap n (P ++ [] ++ x :: (t2 ++ rest' ++ Q)) w wr.drew := ⟨HR.out.drew, HK.drew⟩
          refine wp_region_class (CmpC g cap n (P ++ [] ++ x :: (t2 ++ rest' ++ Q)) w) (by kernel_rfl) (by kernel_rfl) hcc ?_
          clear hcc
          iterate 4 (go_big_quiet_step ((intros; rfl)))
          iterate 12 ((with_reducible refine q_skip (by kernel_rfl) ?_); simp only [Act.put, List.setIfInBounds_toArray, List.set_cons_zero, List.set_cons_succ])
          iterate 1 (go_big_quiet_step ((intros; rfl)))
          refine wpQuiet_nil ?_
          intro w2 hC0
          have hC := Lib.hid hC0
          clear hC0
          have HZ : Hid (∃ t rest, Outer u t rest a (i + 1) ∧ Row w2 g cap n (P ++ t ++ rest ++ Q)) := Lib.hid ⟨_, rest', HN.out, by
            have hz := hC.out.1
            rw [show P ++ [] ++ x :: (t2 ++ rest' ++ Q) = P ++ ([] ++ x :: t2) ++ rest' ++ Q by simp] at hz
            exact hz⟩
          have HK2 := hC.out.2
          clear hC HN
          go_wp2
          go_roundw
          case rel => exact ⟨i + 1, by omega, by omega, by go_num, HZ, HK2⟩
          case measure => simp [intOf] <;> omega
    · have hltz : ¬ (i : Int) < (b : Int) := by omega
      have hrest : rest = [] := by
        refine List.eq_nil_of_length_eq_zero ?_
        rcases Nat.eq_zero_or_pos t.length with h0 | h0
        · have := ho.no (List.eq_nil_of_length_eq_zero h0)
          rw [this] at hst
          simp at hst
          omega
        · omega
      subst hrest
      have HZ : Hid (Sorted g cap n P u Q wr) := Lib.hid ⟨t, ho.so, by simpa using ho.st, by simpa using hr⟩
      clear ho hr hst hat hub hlt
      go_wp2
      go_end0
      exact ⟨rfl, HZ.out, HK⟩
end Go.Proofs.Ytinndmglacfofaa
