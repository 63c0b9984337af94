/- Operations in memory: a row of one's own that grows; the reference's Same; Count. -/
import Derived.Test.YtniehmlklbggdaaDoorScr
import Derived.Test.YtniehmlklbggdaaDoorAppend
import Derived.Test.YtniehmlklbggdaaDoorWhole
import Derived.Deep.CutRange
namespace Go.Proofs.YtniehmlklbggdaaDoor
open Go Go.RowKit
set_option linter.unusedVariables false
set_option linter.unusedSimpArgs false
set_option maxRecDepth 100000

/-- A slice value with n operations of one's own, in blocks from base on. -/
def OwnO (w : World) (base : Nat) (v : Value) (n : Nat) (l : List Oq) : Prop := w.ownsRow base 35 4 v n (flatR Oq.row l)
theorem OwnO.nil (w : World) (base : Nat) : OwnO w base (.slice none 0 0) 0 [] := ⟨rfl, .inl ⟨rfl, rfl⟩⟩
theorem OwnO.below {w w' : World} {base n : Nat} {v : Value} {l : List Oq} (h : OwnO w base v n l) (hb : Below w.heap.size w w') : OwnO w' base v n l := ownsR_below h hb
theorem OwnO.ge {w : World} {base : Nat} {v : Value} {n : Nat} {l : List Oq} (h : OwnO w base v n l) {i : Nat} (hi : v.ownBlock = some i) : base ≤ i := (ownsR_blk h hi).choose_spec.2
theorem OwnO.lst {w : World} {base : Nat} {v : Value} {n : Nat} {l : List Oq} {S : Nat → Prop} (h : OwnO w base v n l) (hl : l.length = n) (hS : ∀ i, v.ownBlock = some i → ¬ S i) : ∃ a cp, v = .slice a n cp ∧ n ≤ cp ∧ cp ≤ maxLen ∧ LstR Oq.row 4 w S a l :=
  ownsR_lst Oq.row_len h hl hS
theorem lstO_one (w : World) (S : Nat → Prop) (o : Oq) (hS : ¬ S w.heap.size) : LstR Oq.row 4 (w.alloc (.cells (cellsOq o) 35)) S (some ⟨w.heap.size, 0, none⟩) [o] := fun _ => by
  refine ⟨_, _, rfl, hS, by simp, fun i v hi => ?_⟩
  rcases i with _ | i
  · simp at hi
    subst hi
    rw [Nat.zero_add, Nat.zero_mul]
    exact (Blk.new w 35 (cellsOq o)).rangeOq
  · simp at hi
theorem arm_appO {ops : Array Oper} {rest : List Oper} {o : Oper} {c : Act} {w : World} {Q : Exit → Act → World → Prop} {base n m cap : Nat} {v : Value} {L M : List Oq} {A : Option Addr} {S : Nat → Prop} (H : OwnO w base v n L) (hM : LstR Oq.row 4 w S A M)
    (hgd : o.guard = none) (s x : Operand) (ho : o.op = .call { callee := .builtin .append, args := #[s, x], argTypes := #[25, 25] }) (hs : c.eval s = v) (hx : c.eval x = .slice A m cap) (hl : M.length = m) (h63 : n + m ≤ 4000000) (hbase : base ≤ w.heap.size)
    (K : ∀ v' w', OwnO w' base v' (n + m) (L ++ M) → w.grownBy w' v.ownBlock → (v'.ownBlock = v.ownBlock ∨ v'.ownBlock = some w.heap.size) → wpList Tryd.prog ops Q rest (c.put o.dst v') w') : wpList Tryd.prog ops Q (o :: rest) c w := by
  obtain ⟨i8, hi8, hz8, hs8, hb8⟩ := appOq
  refine wpList_append_src w hgd s x 25 ho base 35 i8 _ 4 32 Tryd.underlying25 hi8 hz8 hs8 hb8 rfl (by omega) v n _ hs H A m cap (flatR Oq.row M) hx (by rw [flatR_len Oq.row_len, hl]) (fun h0 => ?_) (flatR_mem Oq.row_one) (by unfold maxLen; omega) (by omega) hbase fun v' w' h1 h2 h3 => K v' w' ?_ h2 h3
  · exact hM.flat Oq.row_len (by omega) (by omega)
  · unfold OwnO
    rw [flatR_append]
    exact h1

/-! ### Same -/
set_option maxHeartbeats 800000 in
theorem same_yes (S T : Nat → Prop) (a b : Option Addr) (n cp cq : Nat) (l : List Oq) (w : World) (h : LstR Oq.row 4 w S a l) (h2 : LstR Oq.row 4 w T b l) (hn : l.length = n) (hl : n ≤ 4000000) :
    Calls Tryd.prog 10 #[.slice a n cp, .slice b n cq] w fun e w' => e = .returned (.bool true) ∧ ∃ m, w' = w.drewN m := by
  have HL := Lib.hid h
  have HM := Lib.hid h2
  have HN := Lib.hid hn
  clear h h2 hn
  go_enter Tryd.func10, Tryd.ntmps10
  go_wp2
  go_loopw [5] (fun s5 wr => ∃ (k m : Nat), k ≤ n ∧ s5 = .int .i64 k ∧ wr = w.drewN m) (fun s5 _ => n - (intOf s5).toNat)
  case atStart => exact ⟨0, 0, by omega, rfl, rfl⟩
  case round =>
    obtain ⟨k, m, hk, rfl, rfl⟩ := hrel
    by_cases hlt : k < n
    · obtain ⟨v, hv⟩ : ∃ v, l[k]? = some v := ⟨_, List.getElem?_eq_getElem (by have := HN.out; omega)⟩
      obtain ⟨b1, o1, rfl, -, -, r1⟩ := HL.out.at hv
      obtain ⟨b2, o2, rfl, -, -, r2⟩ := HM.out.at hv
      have R1 := Lib.hid r1
      have R2 := Lib.hid r2
      have hk1 : ¬ (k : Int) < 0 := by omega
      have hk2 : ¬ (n : Int) ≤ (k : Int) := by omega
      have hk3 : (k : Int) < (n : Int) := by omega
      clear hv r1 r2
      go_wp2
      refine wp_region_class (fun w' => ∃ q, w' = w.drewN q) (by kernel_rfl) (by kernel_rfl) ⟨m + 1, rfl⟩ ?_
      iterate 3 (go_big_quiet_step ((intros; rfl)))
      refine q_load_Oq 35 _ b1 (o1 + k * 4) v _ rfl rfl rfl (fun w h => by obtain ⟨q, rfl⟩ := h; exact R1.out) Tryd.underlying35 rfl infoOq ?_
      simp only [Act.put, List.setIfInBounds_toArray, List.set_cons_zero, List.set_cons_succ]
      iterate 3 (go_big_quiet_step ((intros; rfl)))
      refine q_load_Oq 35 _ b2 (o2 + k * 4) v _ rfl rfl rfl (fun w h => by obtain ⟨q, rfl⟩ := h; exact R2.out) Tryd.underlying35 rfl infoOq ?_
      simp only [Act.put, List.setIfInBounds_toArray, List.set_cons_zero, List.set_cons_succ]
      refine q_neOq v v false rfl rfl rfl (by simp) ?_
      simp only [Act.put, List.setIfInBounds_toArray, List.set_cons_zero, List.set_cons_succ]
      refine wpQuiet_nil ?_
      intro _ hw'
      obtain ⟨q, hw''⟩ := hw'
      subst hw''
      go_wp2
      go_roundw
      case rel => exact ⟨k + 1, q, by omega, by go_num, rfl⟩
      case measure => simp [intOf]; omega
    · obtain rfl : k = n := by omega
      clear hlt
      have hlt : ¬ k < k := by omega
      go_wp2
      go_ret
      exact ⟨rfl, m, rfl⟩

/-! ### Count -/
set_option maxHeartbeats 800000 in
theorem count_any (S : Nat → Prop) (a : Option Addr) (n cp : Nat) (l : List Oq) (kd : Int) (w : World) (h : LstR Oq.row 4 w S a l) (hn : l.length = n) (hl : n ≤ 4000000) :
    Calls Tryd.prog 24 #[.slice a n cp, .int .i64 kd] w fun e w' => e = .returned (.int .i64 ((cntK l kd : Nat) : Int)) ∧ Below w.heap.size w w' := by
  have HL := Lib.hid h
  have HN := Lib.hid hn
  clear h hn
  go_enter Tryd.func24, Tryd.ntmps24
  go_wp2
  go_loopw [5, 10] (fun v i wr => ∃ (k y : Nat), k ≤ n ∧ y ≤ k ∧ i = .int .i64 k ∧ v = .int .i64 y ∧ Hid (y = cntK (l.take k) kd) ∧ Hid (Below w.heap.size w wr)) (fun _ i _ => n - (intOf i).toNat)
  case atStart => exact ⟨0, 0, by omega, by omega, rfl, rfl, Lib.hid rfl, Lib.hid (Below.refl _ _)⟩
  case round =>
    obtain ⟨k, y, hk, hy, rfl, rfl, HY, HB⟩ := hrel
    by_cases hlt : k < n
    · obtain ⟨v, hv⟩ : ∃ v, l[k]? = some v := ⟨_, List.getElem?_eq_getElem (by have := HN.out; omega)⟩
      obtain ⟨b1, o1, rfl, -, -, r1⟩ := (HL.out.below HB.out).at hv
      have R1 := Lib.hid r1
      have HS := Lib.hid (cntK_snoc hv kd)
      have HB1 := Lib.hid (HB.out.alloc HB.out.size (.cells (cellsOq v) 35))
      have K1 : Hid (Blk (wr.alloc (.cells (cellsOq v) 35)) wr.heap.size 35 (cellsOq v)) := Lib.hid (Blk.new wr _ _)
      clear hv r1
      go_upto_region 5 with (first | (refine wpList_load_Oq rfl 35 _ rfl b1 (o1 + k * 4) rfl v _ R1.out Tryd.underlying35 rfl infoOq ?_) | (refine wpList_store_row rfl _ _ _ rfl wr.heap.size (cellsOq v) rfl rfl 35 _ (heap_alloc_new wr _) infoOq rfl (cellsOq_one _) ?_; rw [World.setRow_alloc_new]))
      generalize wr.alloc (.cells (cellsOq v) 35) = w1 at *
      generalize wr.heap.size = g at *
      have hc0 : w1.cell? ⟨g, 0, none⟩ = some (.int .i64 v.kd) := K1.out.cell 0
      obtain ⟨vk, hvk⟩ : ∃ vk, v.kd = vk := ⟨_, rfl⟩
      rw [hvk] at hc0
      have HVK := Lib.hid hvk
      clear hvk
      by_cases he : vk = kd
      · have hb : (vk == kd) = true := by simpa using he
        have HY' : Hid (y + 1 = cntK (l.take (k + 1)) kd) := Lib.hid (by rw [HS.out, HY.out, if_pos (HVK.out.trans he)])
        clear he
        go_wp2
        go_roundw
        case rel => exact ⟨k + 1, y + 1, by omega, by omega, by go_num, by go_num, HY', HB1⟩
        case measure => simp [intOf]; omega
      · have hb : (vk == kd) = false := by simpa using he
        have HY' : Hid (y = cntK (l.take (k + 1)) kd) := Lib.hid (by rw [HS.out, HY.out, if_neg (fun e => he (HVK.out.symm.trans e))]; rfl)
        clear he
        go_wp2
        go_roundw
        case rel => exact ⟨k + 1, y, by omega, by omega, by go_num, by go_num, HY', HB1⟩
        case measure => simp [intOf]; omega
    · obtain rfl : k = n := by omega
      clear hlt
      have hlt : ¬ k < k := by omega
      have HE : Hid (y = cntK l kd) := Lib.hid (by rw [HY.out, List.take_of_length_le (by rw [HN.out]; exact Nat.le_refl _)])
      go_wp2
      go_ret
      exact ⟨by rw [← HE.out]; rfl, HB.out⟩
end Go.Proofs.YtniehmlklbggdaaDoor
