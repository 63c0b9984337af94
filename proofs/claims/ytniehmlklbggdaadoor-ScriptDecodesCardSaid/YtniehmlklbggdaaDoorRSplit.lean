/- The reference's Split: the parts between bytes, in a row of strings made anew. -/
import Derived.Test.YtniehmlklbggdaaDoorTxt
namespace Go.Proofs.YtniehmlklbggdaaDoor
open Go Go.RowKit
set_option linter.unusedVariables false
set_option linter.unusedSimpArgs false
set_option maxRecDepth 100000

def strV (l : List UInt8) : Value := .string (bs l)
/-- A slice value with n strings of one's own, in blocks from base on. -/
def OwnS (w : World) (base : Nat) (v : Value) (n : Nat) (D : List (List UInt8)) : Prop := w.ownsRow base 9 1 v n (D.map strV)
theorem appStr : ∃ i, Tryd.prog.info? 9 = some i ∧ i.zero = some (.string ByteArray.empty) ∧ i.size = 1 ∧ i.bytes = 16 := by
  have h : (Tryd.prog.info? 9).map (fun i => (i.zero, i.size, i.bytes)) = some (some (.string ByteArray.empty), 1, 16) := by kernel_rfl
  cases hi : Tryd.prog.info? 9 with
  | none => rw [hi] at h; cases h
  | some i =>
    rw [hi] at h
    simp at h
    exact ⟨i, rfl, h.1, h.2.1, h.2.2⟩
theorem OwnS.nil (w : World) (base : Nat) : OwnS w base (.slice none 0 0) 0 [] := ⟨rfl, .inl ⟨rfl, rfl⟩⟩
theorem OwnS.alloc {w : World} {base : Nat} {v : Value} {n : Nat} {D : List (List UInt8)} (h : OwnS w base v n D) (o : Obj) : OwnS (w.alloc o) base v n D := ownsR_below h ((Below.refl _ _).alloc (Nat.le_refl _) o)
theorem OwnS.below {w w' : World} {base n : Nat} {v : Value} {D : List (List UInt8)} (h : OwnS w base v n D) (hb : Below w.heap.size w w') : OwnS w' base v n D := ownsR_below h hb
theorem OwnS.ge {w : World} {base : Nat} {v : Value} {n : Nat} {D : List (List UInt8)} (h : OwnS w base v n D) {i : Nat} (hi : v.ownBlock = some i) : base ≤ i := (ownsR_blk h hi).choose_spec.2
theorem OwnS.at_ {w : World} {base : Nat} {v : Value} {n : Nat} {D : List (List UInt8)} (h : OwnS w base v n D) {j : Nat} {d : List UInt8} (hd : D[j]? = some d) : ∃ g cp, v = .slice (some ⟨g, 0, none⟩) n cp ∧ n ≤ cp ∧ w.cell? ⟨g, j, none⟩ = some (.string (bs d)) := by
  rcases h.2 with ⟨rfl, rfl⟩ | ⟨g, cp, cur, rfl, h1, h2, h3, h4, h5⟩
  · have := h.1
    simp at this
    subst this
    simp at hd
  · have := h.cells (g := g) rfl j (strV d) (by rw [List.getElem?_map, hd]; rfl)
    rw [add_plain, Nat.zero_add] at this
    exact ⟨g, cp, rfl, h3, this⟩
theorem OwnS.len {w : World} {base : Nat} {v : Value} {n : Nat} {D : List (List UInt8)} (h : OwnS w base v n D) : D.length = n := by
  have := h.1
  simpa using this
theorem arm_appS {ops : Array Oper} {rest : List Oper} {o : Oper} {c : Act} {w : World} {Q : Exit → Act → World → Prop} {base n : Nat} {v : Value} {D : List (List UInt8)} {g : Nat} {y : ByteArray} (H : OwnS w base v n D) (hM : Blk w g 9 #[.string y])
    (hgd : o.guard = none) (s x : Operand) (ho : o.op = .call { callee := .builtin .append, args := #[s, x], argTypes := #[67, 67] }) (hs : c.eval s = v) (hx : c.eval x = .slice (some ⟨g, 0, none⟩) 1 1) (h63 : n ≤ 100000) (hbase : base ≤ w.heap.size)
    (K : ∀ v' w', OwnS w' base v' (n + 1) (D ++ [y.data.toList]) → w.grownBy w' v.ownBlock → (v'.ownBlock = v.ownBlock ∨ v'.ownBlock = some w.heap.size) → wpList Tryd.prog ops Q rest (c.put o.dst v') w') : wpList Tryd.prog ops Q (o :: rest) c w := by
  obtain ⟨i8, hi8, hz8, hs8, hb8⟩ := appStr
  refine wpList_append_src w hgd s x 67 ho base 9 i8 _ 1 16 Tryd.underlying67 hi8 hz8 hs8 hb8 rfl (by omega) v n _ hs H (some ⟨g, 0, none⟩) 1 1 [.string y] hx rfl (fun _ => ⟨_, rfl, fun j u hu => ?_⟩) (fun u hu => by simp at hu; subst hu; rfl) (by unfold maxLen; omega) (by omega) hbase fun v' w' h1 h2 h3 => K v' w' ?_ h2 h3
  · rcases j with _ | j
    · simp at hu
      subst hu
      exact hM.cell 0
    · simp at hu
  · unfold OwnS
    rw [List.map_append]
    exact h1
theorem spl_at {c x : UInt8} {l : List UInt8} {f k : Nat} (hf : f ≤ k) (hx : l[k]? = some x) : spl c ((l.drop f).take (k - f)) (l.drop k) = if x = c then (l.drop f).take (k - f) :: spl c [] (l.drop (k + 1)) else spl c ((l.drop f).take (k + 1 - f)) (l.drop (k + 1)) := by
  obtain ⟨hk, rfl⟩ := List.getElem?_eq_some_iff.1 hx
  rw [List.drop_eq_getElem_cons hk, spl]
  congr 2
  rw [show k + 1 - f = (k - f) + 1 by omega, List.take_add_one, List.getElem?_drop, show f + (k - f) = k by omega, hx]
  rfl
theorem str_at (s : ByteArray) {k : Nat} (h : k < s.size) : s.data.toList[k]? = some s[k] := by
  rw [List.getElem?_eq_getElem (by simpa using h)]
  rfl
theorem bs_mid (s : ByteArray) (f k : Nat) : (s.extract f k).data.toList = (s.data.toList.drop f).take (k - f) := Lib.extract_data s f k
set_option maxHeartbeats 1600000 in
theorem refsplit_any (s : ByteArray) (c : UInt8) (w : World) (hs : s.size ≤ 90000) :
    Calls Tryd.prog 44 #[.string s, .int .u8 (c.toNat : Int)] w fun e w' => ∃ v n, e = .returned v ∧ n ≤ s.size + 1 ∧ OwnS w' w.heap.size v n (spl c [] s.data.toList) ∧ Below w.heap.size w w' := by
  have HN := Lib.hid (spl_len (c := c) s.data.toList [])
  have HC := Lib.hid (List.count_le_length (a := c) (l := s.data.toList))
  have HZ : Hid (s.data.toList.length = s.size) := Lib.hid (by simp)
  obtain ⟨W, hW⟩ : ∃ W, spl c [] s.data.toList = W := ⟨_, rfl⟩
  have HW := Lib.hid hW
  rw [hW] at HN ⊢
  clear hW
  have HCC := Lib.hid (fun x : UInt8 => show ((x.toNat : Int) == (c.toNat : Int)) = decide (x = c) by rw [Bool.eq_iff_iff, beq_iff_eq, decide_eq_true_eq]; exact ⟨fun h => UInt8.toNat_inj.1 (by omega), fun h => by rw [h]⟩)
  obtain ⟨ci, hci⟩ : ∃ ci, (c.toNat : Int) = ci := ⟨_, rfl⟩
  rw [hci] at HCC ⊢
  clear hci
  go_enter Tryd.func44, Tryd.ntmps44
  go_wp2
  go_loopw [5, 6, 7] (fun v fr i wr => ∃ (k f : Nat) (D : List (List UInt8)), k ≤ s.size + 1 ∧ f ≤ k ∧ D.length ≤ k ∧ i = .int .i64 k ∧ fr = .int .i64 f ∧ Hid (k ≤ s.size → D ++ spl c ((s.data.toList.drop f).take (k - f)) (s.data.toList.drop k) = W) ∧ Hid (k = s.size + 1 → D = W) ∧ Hid (OwnS wr w.heap.size v D.length D) ∧ Hid (Below w.heap.size w wr)) (fun _ _ i _ => s.size + 1 - (intOf i).toNat)
  case atStart => exact ⟨0, 0, [], by omega, by omega, by simp, rfl, rfl, Lib.hid (fun _ => by rw [← HW.out]; rfl), Lib.hid (fun h => by omega), Lib.hid (OwnS.nil _ _), Lib.hid (Below.refl _ _)⟩
  case round =>
    obtain ⟨k, f, D, hk, hfk, hDk, rfl, rfl, HI, HE, HO, HB⟩ := hrel
    by_cases hle : k ≤ s.size
    · have h1 : (k : Int) ≤ (s.size : Int) := by omega
      have HI1 := Lib.hid (HI.out hle)
      have HD2 : Hid (D.length ≤ 100000) := Lib.hid (by omega)
      have HO1 := Lib.hid (HO.out.alloc (.cells #[.string (s.extract f k)] 9))
      have HB1 := Lib.hid (HB.out.alloc HB.out.size (.cells #[.string (s.extract f k)] 9))
      have HM : Hid (Blk (wr.alloc (.cells #[.string (s.extract f k)] 9)) wr.heap.size 9 #[.string (s.extract f k)]) := Lib.hid (Blk.new wr _ _)
      have HX := Lib.hid (bs_mid s f k)
      have HDK := Lib.hid hDk
      clear hDk
      by_cases hend : k = s.size
      · have hd1 : ((k : Int) == (s.size : Int)) = true := beq_iff_eq.2 (by omega)
        have hd2 : (k == s.size) = true := by simpa using hend
        have HE2 : Hid (D ++ [(s.extract f k).data.toList] = W) := Lib.hid (by
          rw [← HI1.out, HX.out, List.drop_of_length_le (i := k) (by rw [HZ.out]; omega)]
          rfl)
        have HK : Hid (k = s.size) := Lib.hid hend
        clear hend
        go_wp2_with (refine arm_appS HO1.out HM.out rfl _ _ rfl rfl rfl HD2.out HB1.out.size ?_; intro v' w' HO' HG HV; have HO2 := Lib.hid HO'; have HB2 := Lib.hid (HB1.out.grown HG HB1.out.size (fun i hi => HO1.out.ge hi)); clear HO' HG HV)
        go_roundw
        case rel => exact ⟨k + 1, k + 1, _, by omega, by omega, by have := HDK.out; simp; omega, by go_num, by go_num, Lib.hid (fun h => by have := HK.out; omega), Lib.hid (fun _ => HE2.out), Lib.hid (by rw [List.length_append]; exact HO2.out), HB2⟩
        case measure => simp [intOf]; omega
      · have hlt : k < s.size := by omega
        have hd1 : ((k : Int) == (s.size : Int)) = false := beq_eq_false_iff_ne.2 (by omega)
        have hd2 : (k == s.size) = false := by simpa using hend
        have HS := Lib.hid (spl_at (c := c) hfk (str_at s hlt))
        have hcc := HCC.out s[k]
        by_cases he : s[k] = c
        · rw [decide_eq_true he] at hcc
          have HI2 : Hid ((D ++ [(s.extract f k).data.toList]) ++ spl c ((s.data.toList.drop (k + 1)).take (k + 1 - (k + 1))) (s.data.toList.drop (k + 1)) = W) := Lib.hid (by
            rw [← HI1.out, HS.out, if_pos he, HX.out]
            simp)
          clear he hend
          go_wp2_with (refine arm_appS HO1.out HM.out rfl _ _ rfl rfl rfl HD2.out HB1.out.size ?_; intro v' w' HO' HG HV; have HO2 := Lib.hid HO'; have HB2 := Lib.hid (HB1.out.grown HG HB1.out.size (fun i hi => HO1.out.ge hi)); clear HO' HG HV)
          go_roundw
          case rel => exact ⟨k + 1, k + 1, _, by omega, by omega, by have := HDK.out; simp; omega, by go_num, by go_num, Lib.hid (fun h => HI2.out), Lib.hid (fun _ => by omega), Lib.hid (by rw [List.length_append]; exact HO2.out), HB2⟩
          case measure => simp [intOf]; omega
        · rw [decide_eq_false he] at hcc
          have HI2 : Hid (D ++ spl c ((s.data.toList.drop f).take (k + 1 - f)) (s.data.toList.drop (k + 1)) = W) := Lib.hid (by
            rw [← HI1.out, HS.out, if_neg he])
          clear he hend
          go_wp2
          go_roundw
          case rel => exact ⟨k + 1, f, D, by omega, by omega, by have := HDK.out; omega, by go_num, rfl, Lib.hid (fun h => HI2.out), Lib.hid (fun _ => by omega), HO, HB⟩
          case measure => simp [intOf]; omega
    · obtain rfl : k = s.size + 1 := by omega
      have h1 : ¬ ((s.size + 1 : Nat) : Int) ≤ (s.size : Int) := by omega
      have HE2 := Lib.hid (HE.out rfl)
      clear hle
      go_wp2
      go_ret
      exact ⟨_, rfl, _, hDk, by rw [← HE2.out]; exact HO.out, HB.out⟩
end Go.Proofs.YtniehmlklbggdaaDoor
