/- slices.swapRangeCmpFunc: two parts of equal length change places. (mkswap.py writes this text.) -/
import Derived.Test.YtinndmglacfofaaRow
namespace Go.Proofs.Ytinndmglacfofaa
open Go Go.RowKit Go.Deep
set_option linter.unusedVariables false
set_option linter.unusedSimpArgs false

/-- What the loop has done behind k rounds. -/
def swapped (P A M B Q : List Ent) (k : Nat) : List Ent := P ++ B.take k ++ A.drop k ++ M ++ A.take k ++ B.drop k ++ Q
theorem swapped_at {P A M B Q : List Ent} {k : Nat} {x y : Ent} (hx : A[k]? = some x) (hy : B[k]? = some y) :
    swapped P A M B Q k = (P ++ B.take k) ++ x :: ((A.drop (k + 1) ++ M ++ A.take k) ++ y :: (B.drop (k + 1) ++ Q)) ∧
    swapped P A M B Q (k + 1) = (P ++ B.take k) ++ y :: ((A.drop (k + 1) ++ M ++ A.take k) ++ x :: (B.drop (k + 1) ++ Q)) := by
  have ha := (List.getElem?_eq_some_iff.1 hx).1
  have hb := (List.getElem?_eq_some_iff.1 hy).1
  have ea : A.drop k = x :: A.drop (k + 1) := by rw [List.drop_eq_getElem_cons ha, (List.getElem?_eq_some_iff.1 hx).2]
  have eb : B.drop k = y :: B.drop (k + 1) := by rw [List.drop_eq_getElem_cons hb, (List.getElem?_eq_some_iff.1 hy).2]
  have ta : A.take (k + 1) = A.take k ++ [x] := by rw [List.take_add_one, hx]; rfl
  have tb : B.take (k + 1) = B.take k ++ [y] := by rw [List.take_add_one, hy]; rfl
  unfold swapped
  refine ⟨?_, ?_⟩
  · rw [ea, eb]; simp only [List.append_assoc, List.cons_append]
  · rw [ta, tb]; simp only [List.append_assoc, List.cons_append, List.nil_append]
theorem swapped_len {P A M B Q : List Ent} {k : Nat} (hk : k ≤ A.length) (hab : A.length = B.length) : (swapped P A M B Q k).length = P.length + A.length + M.length + B.length + Q.length := by
  unfold swapped
  simp only [List.length_append, List.length_take, List.length_drop]
  omega

set_option maxHeartbeats 1600000 in
theorem swaprange_any (g cap n a b m : Nat) (fv : Value) (P A M B Q : List Ent) (w : World) (h : Row w g cap n (P ++ A ++ M ++ B ++ Q)) (hn : n ≤ 1000000) (ha : P.length = a) (hb : a + A.length + M.length = b) (hA : A.length = m) (hB : B.length = m) :
    Calls Try.prog 37 #[.slice (some ⟨g, 0, none⟩) n cap, .int .i64 a, .int .i64 b, .int .i64 m, fv] w fun e w' => e = .returned (.tuple #[]) ∧ Row w' g cap n (P ++ B ++ M ++ A ++ Q) ∧ Kept (fun i => i = g) w w' := by
  have hlen := h.1
  simp only [List.length_append] at hlen
  have H0 : Hid (Row w g cap n (swapped P A M B Q 0)) := Lib.hid (by simpa [swapped] using h)
  have HE : Hid (swapped P A M B Q m = P ++ B ++ M ++ A ++ Q) := Lib.hid (by unfold swapped; rw [List.take_of_length_le (by omega), List.drop_of_length_le (by omega), List.take_of_length_le (by omega), List.drop_of_length_le (by omega)]; simp)
  have HA := Lib.hid hA
  have HB := Lib.hid hB
  have HP := Lib.hid ha
  have HL := Lib.hid hlen
  have HBB := Lib.hid hb
  have hbn : b + m ≤ n := by omega
  have hab : a + m ≤ b := by omega
  clear h hA hB ha hlen hb
  go_enter Try.func37, Try.ntmps37
  go_wp2
  go_loopw [10] (fun s10 wr => ∃ k : Nat, k ≤ m ∧ s10 = .int .i64 k ∧ Hid (Row wr g cap n (swapped P A M B Q k)) ∧ Kept (fun i => i = g) w wr) (fun s10 _ => m - (intOf s10).toNat)
  case atStart => exact ⟨0, by omega, rfl, H0, Kept.refl _ _⟩
  case round =>
    obtain ⟨k, hk, rfl, HR, HK⟩ := hrel
    by_cases hlt : k < m
    · obtain ⟨x, hx⟩ : ∃ x, A[k]? = some x := ⟨_, List.getElem?_eq_getElem (by have := HA.out; omega)⟩
      obtain ⟨y, hy⟩ : ∃ y, B[k]? = some y := ⟨_, List.getElem?_eq_getElem (by have := HB.out; omega)⟩
      obtain ⟨e1, e2⟩ := swapped_at (P := P) (M := M) (Q := Q) hx hy
      obtain ⟨i, hi⟩ : ∃ i, a + k = i := ⟨_, rfl⟩
      obtain ⟨j, hj⟩ : ∃ j, b + k = j := ⟨_, rfl⟩
      have hr := HR.out
      rw [e1] at hr
      have hLi : (P ++ B.take k).length = i := by rw [List.length_append, List.length_take, HP.out, HB.out]; omega
      have hRj : i + 1 + (A.drop (k + 1) ++ M ++ A.take k).length = j := by
        have := HA.out; have := HBB.out
        simp only [List.length_append, List.length_take, List.length_drop]; omega
      obtain ⟨t1, t2, hr2⟩ := Row.swap hr hLi hRj
      rw [← e2] at hr2
      have T1 := Lib.hid t1
      have T2 := Lib.hid t2
      have HR2 := Lib.hid hr2
      have RX : Hid (wr.rangeAt g (i * 2) (rowE x)) := Lib.hid (hr.at (by rw [List.getElem?_append_right (by omega), hLi, Nat.sub_self]; rfl))
      have RY : Hid (wr.rangeAt g (j * 2) (rowE y)) := Lib.hid (hr.at (by
        rw [List.getElem?_append_right (by omega), show j - (P ++ B.take k).length = (A.drop (k + 1) ++ M ++ A.take k).length + 1 by omega, List.getElem?_cons_succ, List.getElem?_append_right (by omega), Nat.sub_self]; rfl))
      have hwi : IntKind.i64.wrap ((a : Int) + (k : Int)) = (i : Int) := by rw [IntKind.wrap_i64]; omega
      have hwj : IntKind.i64.wrap ((b : Int) + (k : Int)) = (j : Int) := by rw [IntKind.wrap_i64]; omega
      have hi1 : ¬ (i : Int) < 0 := by omega
      have hi2 : ¬ (n : Int) ≤ (i : Int) := by omega
      have hi3 : (i : Int) < (n : Int) := by omega
      have hj1 : ¬ (j : Int) < 0 := by omega
      have hj2 : ¬ (n : Int) ≤ (j : Int) := by omega
      have hj3 : (j : Int) < (n : Int) := by omega
      have hk3 : (k : Int) < (m : Int) := by omega
      clear t1 t2 hr2 hr HR e1 e2 hx hy hLi hRj hi hj
      go_wp2
      refine wp_region_first (fun _ => True) 22 22 [] (by kernel_rfl) (by kernel_rfl) trivial ?_
      refine wpQuiet_nil ?_
      refine headF_takes (fun _ => True) (m := 22) (f := 4) [0, 1, 2, 3, 4, 5, 6, 7, 8, 9, 10, 11, 12, 14, 15, 16, 17, 18] (fun _ _ => trivial) (by kernel_rfl) trivial ?_
      simp only [List.filterMap_cons, List.filterMap_nil, List.getElem?_toArray, List.getElem?_cons_zero, List.getElem?_cons_succ]
      show wpQuiet _ _ _ _ [_, _, _, _, _, _, _, _, _, _, _, _, _, _, _, _, _, _] _
      iterate 18 (go_big_quiet_step ((intros; rfl)))
      refine wpQuiet_nil ?_
      refine headF_pair (i := 13) (k := 19) (vi := .agg (cellsE y)) (vk := .agg (cellsE x)) (by kernel_rfl) (by kernel_rfl) (by kernel_rfl) (by omega) (by omega) (by omega) rfl rfl rfl rfl (exec_load_ent y rfl RY.out) (exec_load_ent x rfl RX.out) (exec_load_ent y rfl RY.out) (exec_load_ent x rfl RX.out) rfl trivial ?_
      simp only [Act.put, List.getElem_toArray, List.getElem_cons_zero, List.getElem_cons_succ, List.setIfInBounds_toArray, List.set_cons_zero, List.set_cons_succ]
      refine headF_takes (fun _ => True) (m := 2) (f := 1) [20] (fun _ _ => trivial) (by kernel_rfl) trivial ?_
      simp only [List.filterMap_cons, List.filterMap_nil, List.getElem?_toArray, List.getElem?_cons_zero, List.getElem?_cons_succ]
      show wpQuiet _ _ _ _ [_] _
      go_big_quiet_step ((intros; rfl))
      refine wpQuiet_nil ?_
      refine headF_one (i := 21) (by kernel_rfl) (by omega) ?_
      refine wpOp_at rfl rfl (wp_store_mid 46 (.tmp 36) (.tmp 29) rfl g (i * 2) (cellsE y) rfl rfl T1.out infoE (cellsE_one y) ⟨trivial, ?_⟩)
      show Region.seqB _ _ _ _ _ = true ∧ _
      refine ⟨by kernel_rfl, ?_⟩
      simp only [Act.put, List.getElem_toArray, List.getElem_cons_zero, List.getElem_cons_succ, List.setIfInBounds_toArray, List.set_cons_zero, List.set_cons_succ, List.drop_succ_cons, List.drop_zero]
      go_wp2_with (refine wpList_store_mid rfl 46 _ _ rfl g (j * 2) (cellsE x) rfl rfl T2.out infoE (cellsE_one x) ?_)
      refine NoPanic.normal ?_
      go_wp2
      go_roundw
      case rel => exact ⟨k + 1, by omega, by go_num, Lib.hid HR2.out, Kept.setCells _ _ _ (Kept.setCells _ _ _ HK.drew (.inl rfl)) (.inl rfl)⟩
      case measure => simp [intOf]; omega
    · obtain rfl : k = m := by omega
      have hz : Row wr g cap n (P ++ B ++ M ++ A ++ Q) := by rw [← HE.out]; exact HR.out
      have HZ := Lib.hid hz
      clear hlt hz
      have hlt : ¬ k < k := by omega
      go_wp2
      go_end0
      exact ⟨rfl, HZ.out, HK⟩
end Go.Proofs.Ytinndmglacfofaa
