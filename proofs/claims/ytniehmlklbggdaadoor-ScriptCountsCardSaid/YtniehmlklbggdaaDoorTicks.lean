/- slices.Repeat on a slice of one operation; Ticks. -/
import Derived.Test.YtniehmlklbggdaaDoorMem
import Derived.Test.YtniehmlklbggdaaDoorStructs
import Derived.Test.YtniehmlklbggdaaDoorShelf
import Derived.Laws.MakeOwn
import Derived.Lib.MinMax
namespace Go.Proofs.YtniehmlklbggdaaDoor
open Go Go.RowKit
set_option linter.unusedVariables false
set_option linter.unusedSimpArgs false
set_option maxRecDepth 100000

def tkL (o : Oq) (n : Nat) : List Value := flatR Oq.row (List.replicate n o)
theorem tkL_len (o : Oq) (n : Nat) : (tkL o n).length = n * 4 := by rw [tkL, flatR_len Oq.row_len]; simp
theorem tkL_one (o : Oq) (n : Nat) : ∀ v ∈ tkL o n, v.oneCell' = true := flatR_mem Oq.row_one
theorem tkL_add (o : Oq) (n m : Nat) : tkL o n ++ tkL o m = tkL o (n + m) := by rw [tkL, tkL, tkL, ← flatR_append, List.replicate_append_replicate]
theorem tkL_take (o : Oq) {n m : Nat} (h : m ≤ n) : (tkL o n).take (m * 4) = tkL o m := by
  obtain ⟨q, rfl⟩ : ∃ q, n = m + q := ⟨n - m, by omega⟩
  rw [← tkL_add, List.take_append_of_le_length (by rw [tkL_len]; exact Nat.le_refl _), List.take_of_length_le (by rw [tkL_len]; exact Nat.le_refl _)]
theorem tkL_splice (o : Oq) (k m : Nat) (R : List Value) (h : m * 4 ≤ R.length) : splice (tkL o k ++ R) (k * 4) (tkL o m) = tkL o (k + m) ++ R.drop (m * 4) := by
  unfold splice
  rw [List.take_append_of_le_length (by rw [tkL_len]; exact Nat.le_refl _), List.take_of_length_le (by rw [tkL_len]; exact Nat.le_refl _), tkL_len, List.drop_append, tkL_len, List.drop_of_length_le (by rw [tkL_len]; omega), List.nil_append, ← List.append_assoc, tkL_add,
    show k * 4 + m * 4 - k * 4 = m * 4 by omega]
theorem tk_lst {w : World} {b : Nat} {S : Nat → Prop} {o : Oq} {n : Nat} (h : Blk w b 35 (tkL o n).toArray) (hS : ¬ S b) : LstR Oq.row 4 w S (some ⟨b, 0, none⟩) (List.replicate n o) := fun _ =>
  ⟨_, _, rfl, hS, h.lt, fun i v hi => rangeR_of_flat Oq.row_len (fun j u hu => by rw [Nat.zero_add, h.cell j]; simpa [tkL] using hu) hi⟩
theorem infoOq4 : (Tryd.prog.info? 35).map (·.size) = some 4 := infoOq
theorem run_make_ops (c : Nat) (hc : c ≤ 1048576) (w : World) : (Instr.makeSlice 25 (.int .i64 (c : Int)) (.int .i64 (c : Int))).run Tryd.prog w = .ok (.slice (some ⟨w.heap.size, 0, none⟩) c c) (w.alloc (.cells (madeCells (cellsOq oqZ) (c * 4)) 35)) := by
  obtain ⟨i, hi, hz, hs, hby⟩ := appOq
  have h := run_make (P := Tryd.prog) w 25 35 i _ Tryd.underlying25 hi hz .i64 .i64 c c (by omega) (by omega) (by rw [hby]; omega) (by omega)
  rw [hs, Int.toNat_natCast] at h
  exact h
theorem wp_copyK {P : Program} {w : World} {o : Oper} {a : Act} {K : Act → World → Prop} {Q : Exit → Act → World → Prop} (d s : Operand) (dT sT : TypeId)
    (ho : o.op = .call { callee := .builtin .copy, args := #[d, s], argTypes := #[dT, sT] }) (elem : TypeId) (hu : P.underlying dT = some (.slice elem)) (k : Nat) (hsz : (P.info? elem).map (·.size) = some k)
    (g off g2 off2 : Nat) (dLen dCap sLen sCap : Nat) (hd : a.eval d = .slice (some ⟨g, off, none⟩) dLen dCap) (hs : a.eval s = .slice (some ⟨g2, off2, none⟩) sLen sCap)
    (cur : List Value) (t : TypeId) (hg : w.heap[g]? = some (.cells cur.toArray t (0, 0))) (cs : List Value) (m : Nat) (hm : m = Nat.min sLen dLen) (hn : cs.length = m * k)
    (hsrc : ∀ j v, cs[j]? = some v → w.cell? ⟨g2, off2 + j, none⟩ = some v)
    (hfit : off + cs.length ≤ cur.length) (h1 : ∀ v ∈ cs, v.oneCell' = true)
    (h : K (a.put o.dst (goInt m)) (w.setRow g (splice cur off cs).toArray)) : o.wp P a w K Q := by
  subst hm
  have hrun := run_copy_rowK (P := P) w dT sT o.type elem g off dLen dCap ⟨g2, off2, none⟩ sLen sCap k cur.toArray t cs hu hsz hg hn (fun j v hv => by rw [add_plain]; exact hsrc j v hv) (by simpa using hfit) h1
  unfold Oper.wp
  simp [execOp, ho, resolve, invoke, builtin, hd, hs, hrun, Result.andThen]
  exact h
set_option maxHeartbeats 3200000 in
theorem repeat_any (o : Oq) (g c : Nat) (w : World) (hg : Blk w g 35 (cellsOq o)) (hc : c ≤ 1048576) :
    Calls Tryd.prog 50 #[.slice (some ⟨g, 0, none⟩) 1 1, .int .i64 (c : Int)] w fun e w' => ∃ b, e = .returned (.slice (some ⟨b, 0, none⟩) c c) ∧ w.heap.size ≤ b ∧ Blk w' b 35 (tkL o c).toArray ∧ Below w.heap.size w w' := by
  have hm := fun w => Tryd.bits_Mul 1 c (by omega) (by omega) w
  rw [show 1 * c / 18446744073709551616 = 0 by omega, show 1 * c % 18446744073709551616 = c by omega] at hm
  have HM : Hid (∀ w, Calls Tryd.prog 65 #[.int .u64 1, .int .u64 (c : Int)] w fun e w' => e = .returned (.tuple #[.int .u64 0, .int .u64 (c : Int)]) ∧ w = w') := Lib.hid fun w => (hm w).mono fun e w' ⟨h1, h2⟩ => ⟨h1, h2.symm⟩
  have hmk := run_make_ops c hc
  have HG := Lib.hid hg
  have hw1 : IntKind.u64.wrap (c : Int) = (c : Int) := IntWalk.u64_in _ (by omega)
  have hw2 : IntKind.i64.wrap (c : Int) = (c : Int) := IntWalk.i64_in _ (by omega)
  have hg1 : decide ((9223372036854775807 : Int) < (c : Int)) = false := by simp; omega
  have hc0 : ¬ (c : Int) < 0 := by omega
  have HC0 : Hid ((madeCells (cellsOq oqZ) (c * 4)).toList.length = c * 4) := Lib.hid (by rw [Array.length_toList, size_madeCells])
  have HW : Hid (Blk (w.alloc (.cells (madeCells (cellsOq oqZ) (c * 4)) 35)) w.heap.size 35 (madeCells (cellsOq oqZ) (c * 4)).toList.toArray) := Lib.hid (by simpa using Blk.new w 35 (madeCells (cellsOq oqZ) (c * 4)))
  have BW : Hid (Below w.heap.size w (w.alloc (.cells (madeCells (cellsOq oqZ) (c * 4)) 35))) := Lib.hid ((Below.refl _ _).alloc (Nat.le_refl _) _)
  have HG1 := Lib.hid (HG.out.below ((Below.refl _ _).alloc (Nat.le_refl _) (.cells (madeCells (cellsOq oqZ) (c * 4)) 35)) HG.out.lt)
  have NE : Hid (g ≠ w.heap.size) := Lib.hid (Nat.ne_of_lt HG.out.lt)
  generalize (madeCells (cellsOq oqZ) (c * 4)).toList = C0 at *
  generalize madeCells (cellsOq oqZ) (c * 4) = C1 at *
  have hm1 : Nat.min 1 c = min 1 c := rfl
  obtain ⟨u, hu⟩ : ∃ u, min 1 c = u := ⟨_, rfl⟩
  have HU : Hid (u = Nat.min 1 c) := Lib.hid hu.symm
  have HU2 : Hid (u ≤ c ∧ (u = 0 → c = 0) ∧ u ≤ 1) := Lib.hid (by omega)
  have HTL : Hid ((tkL o u).length = u * 4) := Lib.hid (tkL_len o u)
  have HSRC : Hid (0 < u → ∀ (j : Nat) (v : Value), (tkL o u)[j]? = some v → (w.alloc (.cells C1 35)).cell? ((⟨g, 0, none⟩ : Addr).add j) = some v) := Lib.hid (by
    intro h0 j v hj
    obtain rfl : u = 1 := by have := HU2.out; omega
    rw [add_plain, Nat.zero_add, HG1.out.cell j]
    simpa [tkL, flatR, cellsOq] using hj)
  clear hm hg hm1 hu
  go_enter Tryd.func50, Tryd.ntmps50
  go_wp2_with (first | (go_at_call 65; refine (HM.out _).mono ?_; rintro e w' ⟨rfl, rfl⟩) | (refine wpList_copyK rfl (.tmp 31) (.tmp 32) _ _ rfl 35 Tryd.underlying25 4 (by omega) infoOq4 _ _ _ _ _ _ rfl rfl w.heap.size 0 C0 35 HW.out (tkL o u) u HU.out HTL.out (fun h0 => ⟨rfl, _, rfl, HSRC.out (by have := HTL.out; omega)⟩) (by have := HTL.out; have := HC0.out; have := HU2.out; omega) (tkL_one o u) ?_; intro W1 HD1 K1 S1))
  have HD2 : Hid (Blk W1 w.heap.size 35 (tkL o u ++ C0.drop (u * 4)).toArray) := Lib.hid (by
    have h := tkL_splice o 0 u C0 (by have := HC0.out; have := HU2.out; omega)
    rw [Nat.zero_add] at h
    rw [← h]
    exact HD1.out)
  have HB1 : Hid (Below w.heap.size w W1) := Lib.hid (Kept.below BW.out K1 (fun i hi => by omega) BW.out.size)
  have HR : Hid ((C0.drop (u * 4)).length = (c - u) * 4) := Lib.hid (by rw [List.length_drop, HC0.out]; omega)
  clear HD1 K1 S1 HW HG1 HSRC HTL BW
  have hu1 := HU2.out.1
  have hu2 := HU2.out.2.1
  clear hmk hw1 hw2
  go_loopw [8] (fun i wr => ∃ (k : Nat) (R : List Value), k ≤ c ∧ Hid (k = 0 → c = 0) ∧ i = .int .i64 k ∧ Hid (R.length = (c - k) * 4) ∧ Hid (Blk wr w.heap.size 35 (tkL o k ++ R).toArray) ∧ Hid (Below w.heap.size w wr)) (fun i _ => c - (intOf i).toNat)
  case atStart => exact ⟨u, _, hu1, Lib.hid hu2, rfl, HR, HD2, HB1⟩
  case round =>
    clear HD2 HB1 HR hu1 hu2
    obtain ⟨k, R, hk, HK0, rfl, HR, HD, HB⟩ := hrel
    by_cases hlt : k < c
    · have hk1 : (k : Int) < (c : Int) := by omega
      have hk2 : (k : Int) ≤ (c : Int) := by omega
      have hk3 : k ≤ c := hk
      have hk4 : ¬ c = k := by omega
      have HKP : Hid (0 < k) := Lib.hid (by have := HK0.out; omega)
      obtain ⟨m, hm⟩ : ∃ m, Nat.min k (c - k) = m := ⟨_, rfl⟩
      have HM2 : Hid (m = Nat.min k (c - k)) := Lib.hid hm.symm
      have HMB : Hid (m ≤ k ∧ m ≤ c - k ∧ 0 < m) := Lib.hid (by
        have := HKP.out
        rw [← hm]
        show min k (c - k) ≤ k ∧ min k (c - k) ≤ c - k ∧ 0 < min k (c - k)
        omega)
      clear hm
      go_wp2
      refine wp_region_first (fun _ => True) 9 2 [0, 1, 2, 3, 4, 5, 6] (by kernel_rfl) (by kernel_rfl) trivial ?_
      simp only [List.filterMap_cons, List.filterMap_nil, List.getElem?_toArray, List.getElem?_cons_zero, List.getElem?_cons_succ]
      show wpQuiet _ _ _ _ [_, _, _, _, _, _, _] _
      iterate 7 (go_big_quiet_step ((intros; rfl)))
      refine wpQuiet_nil ?_
      refine headF_one (i := 7) (by kernel_rfl) (by omega) ?_
      have HFIT : Hid (k * 4 + (tkL o m).length ≤ (tkL o k ++ R).length) := Lib.hid (by
        have := HMB.out
        rw [List.length_append, tkL_len, tkL_len, HR.out]
        omega)
      have HSRC : Hid (∀ (j : Nat) (v : Value), (tkL o m)[j]? = some v → wr.drew.cell? ⟨w.heap.size, 0 + j, none⟩ = some v) := Lib.hid fun j v hj => by
        have hb : Blk wr.drew w.heap.size 35 (tkL o k ++ R).toArray := HD.out
        rw [Nat.zero_add, hb.cell j, List.getElem?_toArray]
        have hl : j < (tkL o m).length := (List.getElem?_eq_some_iff.1 hj).1
        rw [tkL_len] at hl
        rw [List.getElem?_append_left (by rw [tkL_len]; have := HMB.out; omega), ← hj, ← tkL_take o HMB.out.1, List.getElem?_take_of_lt hl]
      refine wpOp_at rfl rfl (wp_copyK (.tmp 41) (.tmp 44) _ _ rfl 35 Tryd.underlying25 4 infoOq4 w.heap.size (k * 4) w.heap.size 0 _ _ _ _ rfl rfl (tkL o k ++ R) 35 HD.out (tkL o m) m HM2.out (tkL_len o m) HSRC.out HFIT.out (tkL_one o m) ⟨trivial, ?_⟩)
      have HD3 : Hid (Blk (wr.drew.setRow w.heap.size (splice (tkL o k ++ R) (k * 4) (tkL o m)).toArray) w.heap.size 35 (tkL o (k + m) ++ R.drop (m * 4)).toArray) := Lib.hid (by
        rw [← tkL_splice o k m R (by have := HMB.out; rw [HR.out]; omega)]
        have hb : Blk wr.drew w.heap.size 35 (tkL o k ++ R).toArray := HD.out
        exact hb.setRow _)
      have HB3 : Hid (Below w.heap.size w (wr.drew.setRow w.heap.size (splice (tkL o k ++ R) (k * 4) (tkL o m)).toArray)) := Lib.hid (below_setRow HB.out.drew (Nat.le_refl _) _)
      generalize wr.drew.setRow w.heap.size (splice (tkL o k ++ R) (k * 4) (tkL o m)).toArray = w3 at *
      have hadd : IntKind.i64.wrap ((k : Int) + (m : Int)) = ((k + m : Nat) : Int) := by
        have := HMB.out
        rw [IntWalk.i64_in _ (by omega)]
        omega
      refine headF_takes (fun _ => True) (m := 1) (f := 0) [8] (fun _ h => h) (by kernel_rfl) trivial ?_
      simp only [List.filterMap_cons, List.filterMap_nil, List.getElem?_toArray, List.getElem?_cons_zero, List.getElem?_cons_succ]
      show wpQuiet _ _ _ _ [_] _
      simp only [Act.put, List.getElem_toArray, List.getElem_cons_zero, List.getElem_cons_succ, List.setIfInBounds_toArray, List.set_cons_zero, List.set_cons_succ, goInt]
      iterate 1 (go_big_quiet_step ((intros; rfl)))
      refine wpQuiet_nil ?_
      show Region.seqB _ _ _ _ _ = true ∧ _
      refine ⟨by kernel_rfl, ?_⟩
      simp only [Act.put, List.getElem_toArray, List.getElem_cons_zero, List.getElem_cons_succ, List.setIfInBounds_toArray, List.set_cons_zero, List.set_cons_succ, List.drop_succ_cons, List.drop_zero]
      clear HSRC HFIT HD HB
      go_wp2_with (fail)
      refine NoPanic.normal ?_
      go_wp2_with (fail)
      refine ⟨⟨k + m, _, by have := HMB.out; omega, Lib.hid (fun h => by have := HKP.out; omega), rfl, Lib.hid (by rw [List.length_drop, HR.out]; omega), HD3, HB3⟩, ?_⟩
      have := HMB.out
      simp [intOf]; omega
    · obtain rfl : k = c := by omega
      have HR0 : Hid (R = []) := Lib.hid (List.eq_nil_of_length_eq_zero (by rw [HR.out]; simp))
      clear hlt
      have hlt : ¬ (k : Int) < (k : Int) := by omega
      go_wp2
      go_ret
      exact ⟨_, rfl, Nat.le_refl _, by have := HD.out; rwa [HR0.out, List.append_nil] at this, HB.out⟩
theorem ticks_any (n : Int) (hn : (Lit.int .i64 n).wf = true) (w : World) : Calls Tryd.prog 25 #[.int .i64 n] w fun e w' => ∃ b, e = .returned (.slice (some ⟨b, 0, none⟩) (min (max n 0).toNat 1048576) (min (max n 0).toNat 1048576)) ∧ w.heap.size ≤ b ∧ Blk w' b 35 (tkL ⟨7, 0, 0, 0⟩ (min (max n 0).toNat 1048576)).toArray ∧ Below w.heap.size w w' := by
  obtain ⟨c, hc⟩ : ∃ c, min (max n 0).toNat 1048576 = c := ⟨_, rfl⟩
  have hcc : min (max n 0) 1048576 = (c : Int) := by omega
  have hc2 : c ≤ 1048576 := by omega
  rw [hc]
  have HR := Lib.hid (repeat_any ⟨7, 0, 0, 0⟩ w.heap.size c (w.alloc (.cells (cellsOq ⟨7, 0, 0, 0⟩) 35)) (Blk.new w _ _) hc2)
  have HZ : Hid ((w.alloc (.cells (cellsOq ⟨7, 0, 0, 0⟩) 35)).heap.size = w.heap.size + 1) := Lib.hid (by simp)
  have B0 : Hid (Below w.heap.size w (w.alloc (.cells (cellsOq ⟨7, 0, 0, 0⟩) 35))) := Lib.hid ((Below.refl _ _).alloc (Nat.le_refl _) _)
  rw [HZ.out] at HR
  clear hc hc2 hn HZ
  obtain ⟨y, hy⟩ : ∃ y, max n 0 = y := ⟨_, rfl⟩
  rw [hy] at hcc
  go_enter Tryd.func25, Tryd.ntmps25
  go_wp2_with (first | (refine wpList_build_Oq rfl 35 _ rfl ⟨7, 0, 0, 0⟩ (by kernel_rfl) ?_) | (refine wpList_oneOq rfl _ ⟨7, 0, 0, 0⟩ rfl rfl ?_))
  refine HR.out.mono ?_
  rintro e w2 ⟨b, rfl, h1, h2, h3⟩
  have H2 := Lib.hid h2
  have B2 := Lib.hid (B0.out.trans (h3.mono (by omega)))
  have HB : Hid (w.heap.size ≤ b) := Lib.hid (by omega)
  clear h1 h2 h3
  go_wp2
  go_ret
  exact ⟨_, rfl, HB.out, H2.out, B2.out⟩
end Go.Proofs.YtniehmlklbggdaaDoor
