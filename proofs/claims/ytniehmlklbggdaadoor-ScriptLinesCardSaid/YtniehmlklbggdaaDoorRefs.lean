/- The reference: Operands, Size, uses, index, Valid. -/
import Derived.Test.YtniehmlklbggdaaDoorInv
import Derived.Test.YtniehmlklbggdaaDoorFuncs
import Derived.Test.YtniehmlklbggdaaDoorRd
import Derived.Test.YtniehmlklbggdaaDoorStructs
import Derived.Deep.CutRange
namespace Go.Proofs.YtniehmlklbggdaaDoor
open Go Go.RowKit
set_option linter.unusedVariables false
set_option linter.unusedSimpArgs false
set_option maxRecDepth 100000

def Od.ch : Od → UInt8 | .ix => 105 | .tg => 116 | .am => 97
def strL (l : List Od) : ByteArray := ⟨(l.map Od.ch).toArray⟩
theorem szs_dropR {l : List Od} {k : Nat} {d : Od} (h : l[k]? = some d) : szs (l.drop k) = d.sz + szs (l.drop (k + 1)) := by
  obtain ⟨hk, rfl⟩ := List.getElem?_eq_some_iff.1 h
  rw [List.drop_eq_getElem_cons hk, szs]
theorem strL_size (l : List Od) : (strL l).size = l.length := by simp [strL, ByteArray.size]
theorem strL_at {l : List Od} {j : Nat} {d : Od} (h : l[j]? = some d) (w : World) : (Instr.index 9 (.string (strL l)) (.int .i64 (j : Int))).run Tryd.prog w = .ok (.int .u8 (d.ch.toNat : Int)) w := by
  have hl := (List.getElem?_eq_some_iff.1 h).1
  have e : (strL l)[j]? = some d.ch := by
    obtain ⟨hj, rfl⟩ := List.getElem?_eq_some_iff.1 h
    rw [getElem?_pos (strL l) j (by rw [strL_size]; exact hj)]
    have e2 : (strL l)[j]'(by rw [strL_size]; exact hj) = (l.map Od.ch).toArray[j]'(by simpa using hj) := rfl
    rw [e2]
    simp
  have hs : j < (strL l).size := by rw [strL_size]; exact hl
  have e3 : (strL l)[j] = d.ch := by
    rw [getElem?_pos (strL l) j hs] at e
    injection e
  rw [run_index_string w _ _ _ _ Tryd.underlying9]
  simp [hs, e3]
theorem strL_ne (l : List Od) : ((strL l).toList == [63]) = false := by
  rw [ByteArray.toList_eq, beq_eq_false_iff_ne]
  simp only [strL]
  intro h
  cases l with
  | nil => simp at h
  | cons d l => simp at h; cases d <;> simp [Od.ch] at h
theorem refops_yes (k : Int) (l : List Od) (h : ods k = some l) (w : World) : Calls Tryd.prog 40 #[.int .i64 k] w fun e w' => e = .returned (.string (strL l)) ∧ w = w' := by
  rcases ods_cases k with ⟨rfl, e⟩ | ⟨rfl, e⟩ | ⟨rfl, e⟩ | ⟨rfl, e⟩ | ⟨rfl, e⟩ | ⟨rfl, e⟩ | ⟨rfl, e⟩ | ⟨_, e⟩
  all_goals rw [h] at e
  all_goals first | cases e; done | (injection e with e; subst e)
  all_goals
    clear h
    go_enter Tryd.func40, Tryd.ntmps40
    go_wp2
    go_ret
    exact ⟨rfl, rfl⟩
theorem refops_no (k : Int) (h : ods k = none) (w : World) : Calls Tryd.prog 40 #[.int .i64 k] w fun e w' => e = .returned (.string ⟨#[63]⟩) ∧ w = w' := by
  have hk : k < 1 ∨ 7 < k := by
    rcases ods_cases k with ⟨_, e⟩ | ⟨_, e⟩ | ⟨_, e⟩ | ⟨_, e⟩ | ⟨_, e⟩ | ⟨_, e⟩ | ⟨_, e⟩ | ⟨hk, _⟩
    all_goals first | exact hk | (rw [h] at e; cases e)
  have h1 : (k == 1) = false := by simp; omega
  have h2 : (k == 2) = false := by simp; omega
  have h3 : (k == 3) = false := by simp; omega
  have h4 : (k == 4) = false := by simp; omega
  have h5 : (k == 5) = false := by simp; omega
  have h6 : (k == 6) = false := by simp; omega
  have h7 : (k == 7) = false := by simp; omega
  clear hk h
  go_enter Tryd.func40, Tryd.ntmps40
  go_wp2
  go_ret
  exact ⟨rfl, rfl⟩
theorem refindex_any (n : Int) (u : Bool) (w : World) : Calls Tryd.prog 42 #[.int .i64 n, .bool u] w fun e w' => e = .returned (.bool (idxB n u)) ∧ w = w' := by
  by_cases h0 : n = 0
  · subst h0
    have e : idxB 0 u = true := by cases u <;> rfl
    rw [e]
    go_enter Tryd.func42, Tryd.ntmps42
    go_wp2
    go_ret
    exact ⟨rfl, rfl⟩
  · have h0' : (n == 0) = false := by simpa using h0
    cases u with
    | false =>
      have HE : Hid (idxB n false = false) := Lib.hid (by simp [idxB, h0])
      go_enter Tryd.func42, Tryd.ntmps42
      go_wp2
      go_ret
      exact ⟨by rw [HE.out]; rfl, rfl⟩
    | true =>
      by_cases h1 : 0 < n
      · have HE : Hid (idxB n true = decide (n ≤ 65535)) := Lib.hid (by simp [idxB, h0, h1])
        have hd1 : decide (0 < n) = true := by simpa using h1
        go_enter Tryd.func42, Tryd.ntmps42
        go_wp2
        go_ret
        exact ⟨by rw [HE.out]; rfl, rfl⟩
      · have HE : Hid (idxB n true = false) := Lib.hid (by simp [idxB, h0, h1])
        have hd1 : decide (0 < n) = false := by simpa using h1
        go_enter Tryd.func42, Tryd.ntmps42
        go_wp2
        go_ret
        exact ⟨by rw [HE.out]; rfl, rfl⟩
theorem ch_beq (d e : Od) : ((d.ch.toNat : Int) == (e.ch.toNat : Int)) = decide (d = e) := by cases d <;> cases e <;> rfl
set_option maxHeartbeats 800000 in
theorem refuses_any (k : Int) (l : List Od) (n : Nat) (hn : l.length = n) (h : ods k = some l) (d0 : Od) (w : World) : Calls Tryd.prog 43 #[.int .i64 k, .int .u8 (d0.ch.toNat : Int)] w fun e w' => e = .returned (.bool (l.contains d0)) ∧ w = w' := by
  have HO := Lib.hid (refops_yes k l h w)
  have HN := Lib.hid hn
  have hn2 : n ≤ 2 := by rw [← hn]; exact (ods_some h).2.2.2
  have HI : Hid (∀ (j : Nat) (d : Od), l[j]? = some d → ∀ w : World, (Instr.index 9 (.string (strL l)) (.int .i64 (j : Int))).run Tryd.prog w = .ok (.int .u8 (d.ch.toNat : Int)) w) := Lib.hid fun j d hd w => strL_at hd w
  have HB := Lib.hid fun d => ch_beq d d0
  have hsz : (strL l).size = n := by rw [strL_size, hn]
  clear h hn
  generalize strL l = S at *
  obtain ⟨c, hc⟩ : ∃ c, (d0.ch.toNat : Int) = c := ⟨_, rfl⟩
  rw [hc] at HB ⊢
  clear hc
  obtain ⟨R, hR⟩ : ∃ R, l.contains d0 = R := ⟨_, rfl⟩
  have HR := Lib.hid hR
  rw [hR]
  clear hR
  go_enter Tryd.func43, Tryd.ntmps43
  go_wp2_with (fail)
  refine HO.out.mono ?_
  rintro e w1 ⟨rfl, rfl⟩
  go_wp2_with (fail)
  go_loop [6] (fun i => ∃ j : Nat, j ≤ n ∧ i = .int .i64 j ∧ Hid ((l.take j).contains d0 = false)) (fun i => n - (intOf i).toNat)
  case atStart => exact ⟨0, by omega, rfl, Lib.hid rfl⟩
  case round =>
    obtain ⟨j, hj, rfl, HC⟩ := hrel
    by_cases hlt : j < n
    · obtain ⟨d, hd⟩ : ∃ d, l[j]? = some d := ⟨_, List.getElem?_eq_getElem (by rw [HN.out]; exact hlt)⟩
      have hidx := HI.out j d hd
      have hb := HB.out d
      have HD := Lib.hid hd
      clear hd
      generalize (d.ch.toNat : Int) = x at *
      by_cases he : d = d0
      · have hb2 : (x == c) = true := by rw [hb]; simpa using he
        have HT : Hid (R = true) := Lib.hid (by rw [← HR.out, List.contains_iff_mem, ← he]; exact List.mem_of_getElem? HD.out)
        clear hb he
        go_wp2
        go_ret
        exact ⟨by rw [HT.out]; rfl, rfl⟩
      · have hb2 : (x == c) = false := by rw [hb]; simpa using he
        have HC2 : Hid ((l.take (j + 1)).contains d0 = false) := Lib.hid (by
          rw [List.take_add_one, HD.out]
          have := HC.out
          simp at this ⊢
          exact ⟨this, fun h => he h.symm⟩)
        clear hb he
        go_wp2
        refine ⟨⟨j + 1, by omega, by go_num, HC2⟩, ?_⟩
        simp [intOf]; omega
    · obtain rfl : j = n := by omega
      clear hlt
      have hlt : ¬ j < j := by omega
      have HT : Hid (R = false) := Lib.hid (by rw [← HR.out]; have := HC.out; rwa [List.take_of_length_le (by rw [HN.out]; exact Nat.le_refl _)] at this)
      go_wp2
      go_ret
      exact ⟨by rw [HT.out]; rfl, rfl⟩
set_option maxHeartbeats 800000 in
theorem refsize_any (k : Int) (w : World) : Calls Tryd.prog 53 #[.int .i64 k] w fun e w' => e = .returned (.int .i64 ((sizeK k : Nat) : Int)) ∧ w = w' := by
  rcases ho : ods k with _ | l
  · have HO := Lib.hid (refops_no k ho w)
    have HS : Hid (sizeK k = 0) := Lib.hid (by simp [sizeK, ho])
    clear ho
    go_enter Tryd.func53, Tryd.ntmps53
    go_wp2_with (fail)
    refine HO.out.mono ?_
    rintro e w1 ⟨rfl, rfl⟩
    go_wp2
    go_ret
    exact ⟨by rw [HS.out]; rfl, rfl⟩
  · have HO := Lib.hid (refops_yes k l ho w)
    have HS : Hid (sizeK k = szs l + 1) := Lib.hid (by simp [sizeK, ho])
    obtain ⟨n, hn⟩ : ∃ n, l.length = n := ⟨_, rfl⟩
    have HN := Lib.hid hn
    have hn2 : n ≤ 2 := by rw [← hn]; exact (ods_some ho).2.2.2
    have HT := Lib.hid (ods_some ho).2.2.1
    have HI : Hid (∀ (j : Nat) (d : Od), l[j]? = some d → ∀ w : World, (Instr.index 9 (.string (strL l)) (.int .i64 (j : Int))).run Tryd.prog w = .ok (.int .u8 (d.ch.toNat : Int)) w) := Lib.hid fun j d hd w => strL_at hd w
    have hsz : (strL l).size = n := by rw [strL_size, hn]
    have hne := strL_ne l
    clear ho hn
    generalize strL l = S at *
    go_enter Tryd.func53, Tryd.ntmps53
    go_wp2_with (fail)
    refine HO.out.mono ?_
    rintro e w1 ⟨rfl, rfl⟩
    go_wp2_with (fail)
    go_loop [4, 5] (fun v i => ∃ j y : Nat, j ≤ n ∧ i = .int .i64 j ∧ v = .int .i64 y ∧ Hid (y + szs (l.drop j) = szs l + 1)) (fun _ i => n - (intOf i).toNat)
    case atStart => exact ⟨0, 1, by omega, rfl, rfl, Lib.hid (by simp; omega)⟩
    case round =>
      obtain ⟨j, y, hj, rfl, rfl, HY⟩ := hrel
      by_cases hlt : j < n
      · obtain ⟨d, hd⟩ : ∃ d, l[j]? = some d := ⟨_, List.getElem?_eq_getElem (by rw [HN.out]; exact hlt)⟩
        have hidx := HI.out j d hd
        have HS2 : Hid (y + d.sz + szs (l.drop (j + 1)) = szs l + 1) := Lib.hid (by have := HY.out; rw [szs_dropR hd] at this; omega)
        have hy : y ≤ 11 := by have := HY.out; have := HT.out; omega
        clear hd
        cases d with
        | am =>
          have hidx2 : ∀ w : World, (Instr.index 9 (.string S) (.int .i64 (j : Int))).run Tryd.prog w = .ok (.int .u8 97) w := hidx
          clear hidx
          go_wp2
          refine ⟨⟨j + 1, y + 8, by omega, by go_num, by go_num, HS2⟩, ?_⟩
          simp [intOf]; omega
        | ix =>
          have hidx2 : ∀ w : World, (Instr.index 9 (.string S) (.int .i64 (j : Int))).run Tryd.prog w = .ok (.int .u8 105) w := hidx
          clear hidx
          go_wp2
          refine ⟨⟨j + 1, y + 2, by omega, by go_num, by go_num, HS2⟩, ?_⟩
          simp [intOf]; omega
        | tg =>
          have hidx2 : ∀ w : World, (Instr.index 9 (.string S) (.int .i64 (j : Int))).run Tryd.prog w = .ok (.int .u8 116) w := hidx
          clear hidx
          go_wp2
          refine ⟨⟨j + 1, y + 2, by omega, by go_num, by go_num, HS2⟩, ?_⟩
          simp [intOf]; omega
      · obtain rfl : j = n := by omega
        clear hlt
        have hlt : ¬ j < j := by omega
        have HE : Hid (y = szs l + 1) := Lib.hid (by have := HY.out; rw [List.drop_of_length_le (by rw [HN.out]; exact Nat.le_refl _)] at this; exact this)
        go_wp2
        go_ret
        exact ⟨by rw [HS.out, ← HE.out]; rfl, rfl⟩
set_option maxHeartbeats 1600000 in
theorem refvalid_any (o : Oq) (w : World) : Calls Tryd.prog 19 #[.agg (cellsOq o)] w fun e w' => e = .returned (.bool (validB o)) ∧ Below w.heap.size w w' := by
  have K0 : Hid (Blk (w.alloc (.cells (cellsOq o) 35)) w.heap.size 35 (cellsOq o)) := Lib.hid (Blk.new w _ _)
  have B0 : Hid (Below w.heap.size w (w.alloc (.cells (cellsOq o) 35))) := Lib.hid ((Below.refl _ _).alloc (Nat.le_refl _) _)
  rcases ho : ods o.kd with _ | l
  · have HO := Lib.hid (fun w => refops_no o.kd ho w)
    have HV : Hid (validB o = false) := Lib.hid (by simp [validB, ho])
    have hc0 : (w.alloc (.cells (cellsOq o) 35)).cell? ⟨w.heap.size, 0, none⟩ = some (.int .i64 o.kd) := K0.out.cell 0
    clear ho
    go_enter Tryd.func19, Tryd.ntmps19
    go_upto_region 1 with (fail)
    generalize w.alloc (.cells (cellsOq o) 35) = W at *
    go_quiet (first | (go_at_call 40; exact quiet_left (HO.out _)))
    go_wp2
    go_ret
    exact ⟨by rw [HV.out]; rfl, below_drewN B0.out _⟩
  · have HO := Lib.hid (fun w => refops_yes o.kd l ho w)
    have hne := strL_ne l
    have HU1 : Hid (∀ w : World, Calls Tryd.prog 43 #[.int .i64 o.kd, .int .u8 105] w fun e w' => e = .returned (.bool (l.contains .ix)) ∧ w = w') := Lib.hid fun w => refuses_any o.kd l _ rfl ho .ix w
    have HU2 : Hid (∀ w : World, Calls Tryd.prog 43 #[.int .i64 o.kd, .int .u8 116] w fun e w' => e = .returned (.bool (l.contains .tg)) ∧ w = w') := Lib.hid fun w => refuses_any o.kd l _ rfl ho .tg w
    have HU3 : Hid (∀ w : World, Calls Tryd.prog 43 #[.int .i64 o.kd, .int .u8 97] w fun e w' => e = .returned (.bool (l.contains .am)) ∧ w = w') := Lib.hid fun w => refuses_any o.kd l _ rfl ho .am w
    have HX1 := Lib.hid (fun w => refindex_any o.ix (l.contains .ix) w)
    have HX2 := Lib.hid (fun w => refindex_any o.tg (l.contains .tg) w)
    have HV : Hid (validB o = (idxB o.ix (l.contains .ix) && (idxB o.tg (l.contains .tg) && (decide (o.am = 0) || l.contains .am)))) := Lib.hid (by simp [validB, usesB, ho])
    have hc0 : (w.alloc (.cells (cellsOq o) 35)).cell? ⟨w.heap.size, 0, none⟩ = some (.int .i64 o.kd) := K0.out.cell 0
    have hc1 : (w.alloc (.cells (cellsOq o) 35)).cell? ⟨w.heap.size, 1, none⟩ = some (.int .i64 o.ix) := K0.out.cell 1
    have hc2 : (w.alloc (.cells (cellsOq o) 35)).cell? ⟨w.heap.size, 2, none⟩ = some (.int .i64 o.tg) := K0.out.cell 2
    have hc3 : (w.alloc (.cells (cellsOq o) 35)).cell? ⟨w.heap.size, 3, none⟩ = some (.int .u64 o.am) := K0.out.cell 3
    generalize hv : validB o = v at *
    generalize idxB o.ix (l.contains .ix) = b1 at *
    generalize idxB o.tg (l.contains .tg) = b2 at *
    generalize l.contains .ix = u1 at *
    generalize l.contains .tg = u2 at *
    generalize l.contains .am = u3 at *
    generalize strL l = S at *
    have HVV := Lib.hid hv
    have ham : (o.am == 0) = decide (o.am = 0) := rfl
    generalize hb3 : decide (o.am = 0) = b3 at *
    clear ho hv hb3
    rcases b1 with _ | _
    rotate_left
    rcases b2 with _ | _
    rotate_left
    rcases b3 with _ | _
    all_goals
      go_enter Tryd.func19, Tryd.ntmps19
      go_upto_region 1 with (fail)
      generalize w.alloc (.cells (cellsOq o) 35) = W at *
      go_quiet (first | (go_at_call 40; exact quiet_left (HO.out _)) | (go_at_call 43; (first | with_reducible exact quiet_left (HU1.out _) | with_reducible exact quiet_left (HU2.out _) | with_reducible exact quiet_left (HU3.out _))) | (go_at_call 42; (first | with_reducible exact quiet_left (HX1.out _) | with_reducible exact quiet_left (HX2.out _))))
      go_wp2
      go_ret
      refine ⟨?_, below_drewN B0.out _⟩
      rw [HV.out]
      rfl
end Go.Proofs.YtniehmlklbggdaaDoor
