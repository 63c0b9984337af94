/- The statement ScriptReads, walked: it returns true for all texts. -/
import Derived.Test.YtniehmlklbggdaaDoorLive
namespace Go.Proofs.YtniehmlklbggdaaDoor
open Go Go.RowKit
set_option linter.unusedVariables false
set_option linter.unusedSimpArgs false
set_option maxRecDepth 100000

theorem arm_appOG {ops : Array Oper} {rest : List Oper} {o : Oper} {c : Act} {w : World} {Q : Exit → Act → World → Prop} {base n m cap : Nat} {v : Value} {L M : List Oq} {A : Option Addr} {S : Nat → Prop} (H : OwnO w base v n L) (hM : LstR Oq.row 4 w S A M)
    (hw : Region.wanted o (yielded ops c.tmps) = true) (s x : Operand) (ho : o.op = .call { callee := .builtin .append, args := #[s, x], argTypes := #[25, 25] }) (hs : c.eval s = v) (hx : c.eval x = .slice A m cap) (hl : M.length = m) (h63 : n + m ≤ 4000000) (hbase : base ≤ w.heap.size)
    (K : ∀ v' w', OwnO w' base v' (n + m) (L ++ M) → w.grownBy w' v.ownBlock → (v'.ownBlock = v.ownBlock ∨ v'.ownBlock = some w.heap.size) → wpList Tryd.prog ops Q rest (c.put o.dst v') w') : wpList Tryd.prog ops Q (o :: rest) c w := by
  obtain ⟨i8, hi8, hz8, hs8, hb8⟩ := appOq
  unfold wpList
  rw [if_pos hw]
  refine .inl (wp_append_src w s x 25 ho base 35 i8 _ 4 32 Tryd.underlying25 hi8 hz8 hs8 hb8 rfl (by omega) v n _ hs H A m cap (flatR Oq.row M) hx (by rw [flatR_len Oq.row_len, hl]) (fun h0 => hM.flat Oq.row_len (by omega) (by omega)) (flatR_mem Oq.row_one) (by unfold maxLen; omega) (by omega) hbase fun v' w' h1 h2 h3 => K v' w' ?_ h2 h3)
  unfold OwnO
  rw [flatR_append]
  exact h1
theorem bs_two (a b : ByteArray) : ((a ++ ⟨#[10]⟩) ++ b).data.toList = a.data.toList ++ 10 :: b.data.toList := by simp [ByteArray.data_append]
theorem LstR.fresh {w : World} {S : Nat → Prop} {a : Option Addr} {l : List Oq} (h : LstR Oq.row 4 w S a l) : LstR Oq.row 4 w (fun i => w.heap.size ≤ i) a l := fun h0 => by
  obtain ⟨b, off, h1, _, h3, h4⟩ := h h0
  exact ⟨b, off, h1, by omega, h3, h4⟩
theorem LstR.appO {w w' : World} {B n : Nat} {v : Value} {l m : List Oq} {a : Option Addr} (h : LstR Oq.row 4 w (fun i => B ≤ i) a m) (ho : OwnO w B v n l) (hg : w.grownBy w' v.ownBlock) : LstR Oq.row 4 w' (fun i => B ≤ i) a m := by
  refine (LstR.kept (S := fun i => v.ownBlock = some i) (h.more fun i _ hi => ho.ge hi) (Kept.of_grown (S := fun i => v.ownBlock = some i) hg fun i hi => hi.symm)).same (Nat.le_refl _) (fun _ _ _ => rfl) |> fun h2 h0 => ?_
  obtain ⟨b, off, e1, n1, l1, c1⟩ := h h0
  obtain ⟨b2, off2, e2, n2, l2, c2⟩ := h2 h0
  rw [e1] at e2
  injection e2 with e2
  injection e2 with e2 e3 _
  subst e2 e3
  exact ⟨b, off, e1, n1, l2, c2⟩
theorem ownO_empty (w : World) : OwnO (w.alloc (.cells #[] 35)) w.heap.size (.slice (some ⟨w.heap.size, 0, none⟩) 0 0) 0 [] := owns_empty (Blk.new w _ _) (Nat.le_refl _)
set_option maxHeartbeats 3200000 in
theorem walk_ScriptReads (a0 a1 : ByteArray) (w : World) (w0 : a0.size ≤ maxLen) (w1 : a1.size ≤ maxLen) (hL : laidMetH Tryd.prog Rows.scriptDecodesRow.laid w) :
    Calls Tryd.prog 7 #[.string a0, .string a1] w fun e w' => e = .returned (.bool true) ∧ Below w.heap.size w w' := by
  have HV := Lib.hid (vars_of_laid hL)
  have HA := Lib.hid (fun w h => alive_any w h)
  clear hL w0 w1
  by_cases hbad : 1000 < a0.size ∨ 1000 < a1.size
  · by_cases hbig : 1000 < a0.size
    · have hg : decide ((1000 : Int) < (a0.size : Int)) = true := by simp; omega
      clear hbig hbad
      go_enter Tryd.func7, Tryd.ntmps7
      go_wp2_with (fail)
      refine (HA.out w HV.out).mono ?_
      rintro e w3 ⟨rfl, b3⟩
      have B3 := Lib.hid b3
      clear b3
      go_wp2
      go_ret
      exact ⟨rfl, B3.out⟩
    · have hg : decide ((1000 : Int) < (a0.size : Int)) = false := by simp; omega
      have hg2 : decide ((1000 : Int) < (a1.size : Int)) = true := by simp; omega
      clear hbig hbad
      go_enter Tryd.func7, Tryd.ntmps7
      go_wp2_with (fail)
      refine (HA.out w HV.out).mono ?_
      rintro e w3 ⟨rfl, b3⟩
      have B3 := Lib.hid b3
      clear b3
      go_wp2
      go_ret
      exact ⟨rfl, B3.out⟩
  · have hg : decide ((1000 : Int) < (a0.size : Int)) = false := by simp; omega
    have hg2 : decide ((1000 : Int) < (a1.size : Int)) = false := by simp; omega
    have hs0 : a0.size ≤ 1000 := by omega
    have hs1 : a1.size ≤ 1000 := by omega
    have h10 : (⟨#[10]⟩ : ByteArray).size = 1 := rfl
    have HR0 := Lib.hid (fun w h => reads_any a0 (by omega) w h)
    have HR1 := Lib.hid (fun w h => reads_any a1 (by omega) w h)
    have HR2 := Lib.hid (fun w h => reads_any ((a0 ++ ⟨#[10]⟩) ++ a1) (by rw [ByteArray.size_append, ByteArray.size_append]; omega) w h)
    rw [bs_two, readL_two] at HR2
    have HRR := Lib.hid (fun w => refreads_any a0 w (by omega))
    have HCN : Hid (∀ w, Calls Tryd.prog 23 #[.string a0, .string ⟨#[10]⟩] w fun e w' => e = .returned (.int .i64 ((a0.data.toList.count 10 : Nat) : Int)) ∧ w = w') := Lib.hid fun w => (Tryd.strings_Count_one a0 10 w).mono fun e w' ⟨h1, h2⟩ => ⟨h1, h2.symm⟩
    have hlen : a0.data.toList.length = a0.size := by simp
    have hlen1 : a1.data.toList.length = a1.size := by simp
    have hc0 := List.count_le_length (a := (10 : UInt8)) (l := a0.data.toList)
    have hc1 := List.count_le_length (a := (10 : UInt8)) (l := a1.data.toList)
    have hl0 := readL_len a0.data.toList
    have hl1 := readL_len a1.data.toList
    generalize readL a0.data.toList = X at *
    generalize readL a1.data.toList = Y at *
    generalize a0.data.toList.count 10 = cn at *
    obtain ⟨n, hn⟩ : ∃ n, X.length = n := ⟨_, rfl⟩
    obtain ⟨m, hm⟩ : ∃ m, Y.length = m := ⟨_, rfl⟩
    have hxy : (X ++ Y).length = n + m := by rw [List.length_append, hn, hm]
    rw [hn] at hl0
    rw [hm] at hl1
    have hn1 : n ≤ 1001 := by omega
    have hm1 : m ≤ 1001 := by omega
    have hle : (n : Int) ≤ (cn : Int) + 1 := by omega
    have hcb : (cn : Int) ≤ 1000 := by omega
    have HN := Lib.hid hn
    have HM := Lib.hid hm
    have HXY := Lib.hid hxy
    clear hbad hlen hlen1 hc0 hc1 hl0 hl1 hn hm hxy h10
    go_enter Tryd.func7, Tryd.ntmps7
    go_wp2_with (fail)
    refine (HR0.out w HV.out).mono ?_
    rintro e w2 ⟨v2, rfl, o2, b2⟩
    rw [HN.out] at o2
    obtain ⟨a2, c2, rfl, _, _, l2⟩ := o2.lst (S := fun _ => False) HN.out (fun _ _ h => h)
    have X2 := Lib.hid l2
    have B2 := Lib.hid b2
    clear o2 l2 b2
    go_wp2_with (fail)
    refine (HR1.out w2 (HV.out.below B2.out)).mono ?_
    rintro e w3 ⟨v3, rfl, o3, b3⟩
    rw [HM.out] at o3
    obtain ⟨a3, c3, rfl, _, _, l3⟩ := o3.lst (S := fun _ => False) HM.out (fun _ _ h => h)
    have Y3 := Lib.hid l3
    have X3 := Lib.hid (X2.out.below b3)
    have B3 := Lib.hid (B2.out.trans (b3.mono B2.out.size))
    clear o3 l3 b3 X2
    go_wp2_with (fail)
    refine (HR2.out w3 (HV.out.below B3.out)).mono ?_
    rintro e w4 ⟨v4, rfl, o4, b4⟩
    rw [HXY.out] at o4
    obtain ⟨a4, c4, rfl, _, _, l4⟩ := o4.lst (S := fun _ => False) HXY.out (fun _ _ h => h)
    have Z4 := Lib.hid l4
    have X4 := Lib.hid (X3.out.below b4)
    have Y4 := Lib.hid (Y3.out.below b4)
    have B4 := Lib.hid (B3.out.trans (b4.mono B3.out.size))
    clear o4 l4 b4 X3 Y3
    go_wp2_with (fail)
    refine (HA.out w4 (HV.out.below B4.out)).mono ?_
    rintro e w5 ⟨rfl, b5⟩
    have Z5 := Lib.hid (Z4.out.below b5)
    have X5 := Lib.hid (X4.out.below b5)
    have Y5 := Lib.hid (Y4.out.below b5)
    have B5 := Lib.hid (B4.out.trans (b5.mono B4.out.size))
    clear b5 X4 Y4 Z4
    go_wp2_with (fail)
    refine (HRR.out w5).mono ?_
    rintro e w6 ⟨v6, rfl, o6, b6⟩
    rw [HN.out] at o6
    obtain ⟨a6, c6, rfl, _, _, l6⟩ := o6.lst (S := fun _ => False) HN.out (fun _ _ h => h)
    have R6 := Lib.hid l6
    have Z6 := Lib.hid (Z5.out.below b6)
    have X6 := Lib.hid (X5.out.below b6)
    have Y6 := Lib.hid (Y5.out.below b6)
    have B6 := Lib.hid (B5.out.trans (b6.mono B5.out.size))
    clear b6 X5 Y5 Z5 o6 l6
    go_wp2_with (fail)
    refine (same_yes _ _ a2 a6 n c2 c6 X w6 X6.out R6.out HN.out (by omega)).mono ?_
    rintro e w7 ⟨rfl, q, hq⟩
    have B7 : Hid (Below w.heap.size w w7) := Lib.hid (by rw [hq]; exact below_drewN B6.out q)
    have X7 : Hid (LstR Oq.row 4 w7 (fun _ => False) a2 X) := Lib.hid (by rw [hq]; exact X6.out)
    have Y7 : Hid (LstR Oq.row 4 w7 (fun _ => False) a3 Y) := Lib.hid (by rw [hq]; exact Y6.out)
    have Z7 : Hid (LstR Oq.row 4 w7 (fun _ => False) a4 (X ++ Y)) := Lib.hid (by rw [hq]; exact Z6.out)
    clear hq X6 Y6 Z6 R6 B6
    have ba : Below w7.heap.size w7 (w7.alloc (.cells #[] 35)) := (Below.refl _ _).alloc (Nat.le_refl _) _
    have X8 := Lib.hid (X7.out.fresh.below ba)
    have Y8 := Lib.hid (Y7.out.fresh.below ba)
    have Z8 := Lib.hid (Z7.out.fresh.below ba)
    have O8 := Lib.hid (ownO_empty w7)
    have B8 := Lib.hid (B7.out.trans (ba.mono B7.out.size))
    have S8 : Hid (w7.heap.size ≤ (w7.alloc (.cells #[] 35)).heap.size) := Lib.hid (by simp)
    have W8 : Hid (w.heap.size ≤ w7.heap.size) := Lib.hid B7.out.size
    have E8 : Hid (0 + n ≤ 4000000) := Lib.hid (by omega)
    have E9 : Hid (0 + n + m ≤ 4000000) := Lib.hid (by omega)
    clear ba X7 Y7 Z7
    go_wp2_with (first
      | (refine arm_appOG O8.out X8.out rfl _ _ rfl rfl rfl HN.out E8.out S8.out ?_; intro v9 w9 q1 q2 q3; have O9 := Lib.hid q1; have Y9 := Lib.hid (Y8.out.appO O8.out q2); have Z9 := Lib.hid (Z8.out.appO O8.out q2); have B9 := Lib.hid (B8.out.grown q2 B8.out.size (fun i hi => Nat.le_trans W8.out (O8.out.ge hi))); have S9 := Lib.hid (Nat.le_trans S8.out q2.size); clear q1 q2 q3)
      | (refine arm_appOG O9.out Y9.out rfl _ _ rfl rfl rfl HM.out E9.out S9.out ?_; intro v10 w10 q1 q2 q3; have O10 := Lib.hid q1; have Z10 := Lib.hid (Z9.out.appO O9.out q2); have B10 := Lib.hid (B9.out.grown q2 B9.out.size (fun i hi => Nat.le_trans W8.out (O9.out.ge hi))); clear q1 q2 q3))
    have o11 := O10.out
    rw [Nat.zero_add, List.nil_append] at o11
    obtain ⟨a11, c11, rfl, _, _, l11⟩ := o11.lst (S := fun _ => False) HXY.out (fun _ _ h => h)
    have R11 := Lib.hid l11
    clear o11 l11
    refine (same_yes _ _ a4 a11 (n + m) c4 c11 (X ++ Y) w10 Z10.out R11.out HXY.out (by omega)).mono ?_
    rintro e w12 ⟨rfl, q, hq⟩
    have B12 : Hid (Below w.heap.size w w12) := Lib.hid (by rw [hq]; exact below_drewN B10.out q)
    clear hq
    go_wp2_with (fail)
    refine (HCN.out w12).mono ?_
    rintro e w13 ⟨rfl, rfl⟩
    go_wp2_with (fail)
    go_ret
    exact ⟨rfl, B12.out⟩
end Go.Proofs.YtniehmlklbggdaaDoor
