/- Read, the reference's. -/
import Derived.Test.YtniehmlklbggdaaDoorRPars
namespace Go.Proofs.YtniehmlklbggdaaDoor
open Go Go.RowKit
set_option linter.unusedVariables false
set_option linter.unusedSimpArgs false
set_option maxRecDepth 100000

def readW (D : List (List UInt8)) : List Oq := (D.filter fun l => !l.isEmpty).map parD
theorem readW_all (t : List UInt8) : readW (spl 10 [] t) = readL t := rfl
theorem readW_snoc (D : List (List UInt8)) (d : List UInt8) : readW (D ++ [d]) = readW D ++ if d = [] then [] else [parD d] := by
  unfold readW
  rw [List.filter_append, List.map_append]
  congr 1
  cases d <;> simp
theorem readW_len (D : List (List UInt8)) : (readW D).length ≤ D.length := by
  simp only [readW, List.length_map]
  exact List.length_filter_le _ _
theorem readW_take {D : List (List UInt8)} {k : Nat} {d : List UInt8} (h : D[k]? = some d) : readW (D.take (k + 1)) = readW (D.take k) ++ if d = [] then [] else [parD d] := by
  rw [List.take_add_one, h]
  exact readW_snoc _ _
theorem spl_mem {c : UInt8} : ∀ (l acc : List UInt8) {d : List UInt8}, d ∈ spl c acc l → d.length ≤ acc.length + l.length
  | [], acc, d, h => by simp [spl] at h; subst h; simp
  | x :: l, acc, d, h => by
    rw [spl] at h
    simp only [List.length_cons]
    split at h
    · rcases List.mem_cons.1 h with rfl | h
      · omega
      · have := spl_mem l [] h
        simp at this
        omega
    · have := spl_mem l _ h
      simp at this
      omega
theorem bs_full {d : List UInt8} (h : d ≠ []) : (bs d).toList ≠ [] := by
  rw [ByteArray.toList_eq]
  exact h
set_option maxHeartbeats 3200000 in
theorem refreads_any (s : ByteArray) (w : World) (hs : s.size ≤ 80000) :
    Calls Tryd.prog 22 #[.string s] w fun e w' => ∃ v, e = .returned v ∧ OwnO w' w.heap.size v (readL s.data.toList).length (readL s.data.toList) ∧ Below w.heap.size w w' := by
  have HSP := Lib.hid (refsplit_any s 10 w (by omega))
  rw [show ((10 : UInt8).toNat : Int) = 10 from rfl] at HSP
  have HRW : Hid (readL s.data.toList = readW (spl 10 [] s.data.toList)) := Lib.hid rfl
  have HWL : Hid (∀ d ∈ spl 10 [] s.data.toList, d.length ≤ 80000) := Lib.hid fun d hd => by
    have := spl_mem _ _ hd
    have hz : s.data.toList.length = s.size := by simp
    simp at this
    omega
  generalize spl 10 [] s.data.toList = D at *
  generalize readL s.data.toList = RL at *
  go_enter Tryd.func22, Tryd.ntmps22
  go_wp2_with (fail)
  refine HSP.out.mono ?_
  rintro e w1 ⟨v0, n, rfl, hn, o1, b1⟩
  have O1 := Lib.hid o1
  have B1 := Lib.hid b1
  have HN := Lib.hid o1.len
  have hnb : n ≤ 80001 := by omega
  obtain ⟨x0, c0, hx0⟩ : ∃ x c, v0 = .slice x n c := by
    rcases o1.2 with ⟨h, h0⟩ | ⟨g, cap, cur, h, _⟩
    · exact ⟨none, 0, by rw [h, h0]⟩
    · exact ⟨_, cap, h⟩
  subst hx0
  clear o1 b1 hn HSP
  go_wp2_with (fail)
  go_loopw [3, 5] (fun v i wr => ∃ (k m : Nat) (M : List Oq), k ≤ n ∧ i = .int .i64 k ∧ m ≤ k ∧ Hid (M = readW (D.take k) ∧ M.length = m) ∧ Hid (OwnO wr w1.heap.size v m M) ∧ Hid (Below w1.heap.size w1 wr)) (fun _ i _ => n - (intOf i).toNat)
  case atStart => exact ⟨0, 0, [], by omega, rfl, by omega, Lib.hid ⟨rfl, rfl⟩, Lib.hid (OwnO.nil _ _), Lib.hid (Below.refl _ _)⟩
  case round =>
    obtain ⟨k, m, M, hk, rfl, hmk, HM, HO, HB⟩ := hrel
    by_cases hlt : k < n
    · obtain ⟨d, hd⟩ : ∃ d, D[k]? = some d := ⟨_, List.getElem?_eq_getElem (by rw [HN.out]; exact hlt)⟩
      obtain ⟨g, cp, e0, hcp, hcv⟩ := (O1.out.below HB.out).at_ hd
      injection e0 with e1 _ e3
      subst e1 e3
      have HT := Lib.hid (readW_take hd)
      have hdl := HWL.out d (List.mem_of_getElem? hd)
      have HPL := Lib.hid (fun w => refparse_line (bs d) w (Nat.le_trans (show (bs d).size ≤ 80000 from hdl) (by omega)))
      rw [show (bs d).data.toList = d from rfl] at HPL
      have HLT := Lib.hid hlt
      have hk1 : (k : Int) < (n : Int) := by omega
      have hk2 : ¬ (n : Int) ≤ (k : Int) := by omega
      clear hd hdl hcp
      by_cases he : d = []
      · have HM2 : Hid (M = readW (D.take (k + 1)) ∧ M.length = m) := Lib.hid ⟨by rw [HT.out, if_pos he, List.append_nil]; exact HM.out.1, HM.out.2⟩
        have hcv2 : wr.cell? ⟨g, k, none⟩ = some (.string ⟨#[]⟩) := by rw [hcv, he]; rfl
        clear he hcv HPL
        go_wp2_with (fail)
        go_roundw
        case rel => exact ⟨k + 1, m, M, by omega, by go_num, by omega, HM2, HO, HB⟩
        case measure => simp [intOf]; omega
      · have hne := bs_full he
        have hf1 : ((bs d).toList == []) = false := by simpa using hne
        have hf2 : (!(bs d).toList.isEmpty) = true := by simpa using hne
        have hf3 : (bs d).toList.isEmpty = false := by simpa using hne
        have HM2 : Hid (M ++ [parD d] = readW (D.take (k + 1)) ∧ (M ++ [parD d]).length = m + 1) := Lib.hid ⟨by rw [HT.out, if_neg he, HM.out.1], by have := HM.out.2; simp; omega⟩
        generalize bs d = y at *
        generalize parD d = o at *
        generalize (parL d).isSome = ok at *
        clear he
        go_wp2_with (fail)
        refine (HPL.out wr).mono ?_
        rintro e w2 ⟨rfl, b2⟩
        have ba : Below w2.heap.size w2 (w2.alloc (.cells (cellsOq o) 35)) := (Below.refl _ _).alloc (Nat.le_refl _) _
        have B3 := Lib.hid ((HB.out.trans (b2.mono HB.out.size)).trans (ba.mono (Nat.le_trans HB.out.size b2.size)))
        have O3 := Lib.hid ((HO.out.below b2).below ba)
        have K3 : Hid (Blk (w2.alloc (.cells (cellsOq o) 35)) w2.heap.size 35 (cellsOq o)) := Lib.hid (Blk.new w2 _ _)
        clear b2 ba HB HO HPL
        go_upto_region 8 with (refine wpList_store_row rfl _ _ _ rfl w2.heap.size (cellsOq o) rfl rfl 35 _ (heap_alloc_new w2 _) infoOq rfl (cellsOq_one _) ?_; rw [World.setRow_alloc_new])
        generalize w2.alloc (.cells (cellsOq o) 35) = w3 at *
        generalize w2.heap.size = h at *
        have bb : Below w3.heap.size w3 (w3.alloc (.cells (cellsOq o) 35)) := (Below.refl _ _).alloc (Nat.le_refl _) _
        have B4 := Lib.hid (B3.out.trans (bb.mono B3.out.size))
        have O4 := Lib.hid (O3.out.below bb)
        have L4 := Lib.hid (lstO_one w3 (fun _ => False) o (fun h => h))
        have HSZ : Hid (m + 1 ≤ 4000000) := Lib.hid (by omega)
        clear bb B3 O3
        go_wp2_with (first | (refine wpList_load_row rfl 35 _ rfl h rfl 35 (cellsOq o) (0, 0) _ K3.out Tryd.underlying35 rfl infoOq ?_) | (refine wpList_oneOq rfl _ o rfl rfl ?_) | (refine arm_appO O4.out L4.out rfl _ _ rfl rfl rfl rfl HSZ.out B4.out.size ?_; intro v5 w5 q1 q2 q3; have O5 := Lib.hid q1; have B5 := Lib.hid (B4.out.grown q2 B4.out.size (fun i hi => O4.out.ge hi)); clear q1 q2 q3))
        go_roundw
        case rel => exact ⟨k + 1, m + 1, _, by omega, by go_num, by omega, HM2, O5, B5⟩
        case measure => simp [intOf]; omega
    · obtain rfl : k = n := by omega
      have HE : Hid (M = RL) := Lib.hid (by rw [HM.out.1, HRW.out, List.take_of_length_le (by rw [HN.out]; exact Nat.le_refl _)])
      have HEL : Hid (RL.length = m) := Lib.hid (by rw [← HE.out]; exact HM.out.2)
      clear hlt
      have hlt : ¬ k < k := by omega
      go_wp2_with (fail)
      go_ret
      exact ⟨_, rfl, by rw [HEL.out, ← HE.out]; exact ownsR_base HO.out B1.out.size, B1.out.trans (HB.out.mono B1.out.size)⟩
end Go.Proofs.YtniehmlklbggdaaDoor
