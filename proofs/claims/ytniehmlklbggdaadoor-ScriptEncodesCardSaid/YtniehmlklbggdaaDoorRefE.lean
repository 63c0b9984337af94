/- The reference's Encode. -/
import Derived.Test.YtniehmlklbggdaaDoorRefs
import Derived.Test.YtniehmlklbggdaaDoorWrite
namespace Go.Proofs.YtniehmlklbggdaaDoor
open Go Go.RowKit
set_option linter.unusedVariables false
set_option linter.unusedSimpArgs false
set_option maxRecDepth 100000

theorem encF_snocR {o : Oq} : ∀ {l : List Od} {k : Nat} {d : Od}, l[k]? = some d → encF o (l.take (k + 1)) = encF o (l.take k) ++ bigL (d.get o) d.sz
  | [], _, _, h => by simp at h
  | x :: l, 0, d, h => by simp at h; subst h; simp [encF]
  | x :: l, k + 1, d, h => by
    simp only [List.getElem?_cons_succ] at h
    simp only [List.take_succ_cons, encF, encF_snocR h, List.append_assoc]
theorem szs_takeR : ∀ (l : List Od) (k : Nat), szs (l.take k) ≤ szs l
  | [], _ => by simp
  | x :: l, 0 => by simp [szs]
  | x :: l, k + 1 => by simp only [List.take_succ_cons, szs]; have := szs_takeR l k; omega
theorem OwnB.bys {w : World} {base : Nat} {v : Value} {n : Nat} {L : List Int} (h : OwnB w base v n L) (hL : AllB L) {S : Nat → Prop} (hS : ∀ i, v.ownBlock = some i → ¬ S i) : ∃ a cp, v = .slice a n cp ∧ L.length = n ∧ n ≤ cp ∧ cp ≤ maxLen ∧ Bys w S a L := by
  have hl : L.length = n := by have := h.1; simpa using this
  rcases h.2 with ⟨rfl, h2⟩ | ⟨g, cp, cur, rfl, h1, h3, h4, h5, h6, h7⟩
  · subst h2
    obtain rfl := List.eq_nil_of_length_eq_zero hl
    exact ⟨none, 0, rfl, rfl, by omega, by unfold maxLen; omega, Bys.nil _ _ _⟩
  · refine ⟨_, cp, rfl, hl, h4, h5, hL, fun h0 => ⟨g, 0, rfl, hS g rfl, (Array.getElem?_eq_some_iff.1 h3).1, fun j hj => ?_⟩⟩
    have := h.cells (g := g) rfl j (.int .u8 (L.getD j 0)) (by rw [List.getElem?_map, List.getD_eq_getElem?_getD, List.getElem?_eq_getElem hj]; rfl)
    rwa [add_plain] at this
set_option maxHeartbeats 1600000 in
theorem refencode_any (o : Oq) (l : List Od) (n : Nat) (hn : l.length = n) (ho : ods o.kd = some l) (hf : FitsOq o) (w : World) :
    Calls Tryd.prog 29 #[.agg (cellsOq o)] w fun e w' => ∃ v, e = .returned v ∧ OwnB w' w.heap.size v (encL o).length (encL o) ∧ Below w.heap.size w w' := by
  have K0 : Hid (Blk (w.alloc (.cells (cellsOq o) 35)) w.heap.size 35 (cellsOq o)) := Lib.hid (Blk.new w _ _)
  have B0 : Hid (Below w.heap.size w (w.alloc (.cells (cellsOq o) 35))) := Lib.hid ((Below.refl _ _).alloc (Nat.le_refl _) _)
  have HO := Lib.hid (fun w => refops_yes o.kd l ho w)
  have HI := Lib.hid (ods_some ho)
  have HN := Lib.hid hn
  have HF := Lib.hid hf
  have HE : Hid (encL o = o.kd :: encF o l) := Lib.hid (by simp [encL, ho])
  have hn2 : n ≤ 2 := by rw [← hn]; exact (ods_some ho).2.2.2
  have HX : Hid (∀ (j : Nat) (d : Od), l[j]? = some d → ∀ w : World, (Instr.index 9 (.string (strL l)) (.int .i64 (j : Int))).run Tryd.prog w = .ok (.int .u8 (d.ch.toNat : Int)) w) := Lib.hid fun j d hd w => strL_at hd w
  have hsz : (strL l).size = n := by rw [strL_size, hn]
  have hw8 : IntKind.u8.wrap o.kd = o.kd := by
    have := ods_some ho
    simp [IntKind.wrap, IntKind.bits, IntKind.signed]; omega
  have hc0 : (w.alloc (.cells (cellsOq o) 35)).cell? ⟨w.heap.size, 0, none⟩ = some (.int .i64 o.kd) := K0.out.cell 0
  have E0 : Hid ((w.alloc (.cells (cellsOq o) 35)).heap.size = w.heap.size + 1) := Lib.hid (by simp)
  clear hn ho hf
  generalize strL l = S at *
  go_enter Tryd.func29, Tryd.ntmps29
  go_upto_region 2 with (fail)
  generalize w.alloc (.cells (cellsOq o) 35) = W at *
  have O2 : Hid (OwnB (W.alloc (.cells #[.int .u8 o.kd] 5)) W.heap.size (.slice (some ⟨W.heap.size, 0, none⟩) 1 1) 1 [o.kd]) := Lib.hid ⟨rfl, .inr ⟨W.heap.size, 1, #[.int .u8 o.kd], rfl, Nat.le_refl _, heap_alloc_new W _, by omega, by unfold maxLen; omega, by simp, by simp⟩⟩
  have B2 := Lib.hid (B0.out.alloc B0.out.size (.cells #[.int .u8 o.kd] 5))
  have K2 := Lib.hid (K0.out.alloc (.cells #[.int .u8 o.kd] 5))
  have hc0' : (W.alloc (.cells #[.int .u8 o.kd] 5)).cell? ⟨w.heap.size, 0, none⟩ = some (.int .i64 o.kd) := K2.out.cell 0
  have ZB : Hid (w.heap.size < W.heap.size) := Lib.hid K0.out.lt
  have Z2 : Hid (W.heap.size ≤ (W.alloc (.cells #[.int .u8 o.kd] 5)).heap.size) := Lib.hid (by simp)
  clear hc0 hw8 K0 B0
  rw [E0.out] at O2 Z2
  generalize W.alloc (.cells #[.int .u8 o.kd] 5) = w2 at *
  go_wp2_with (fail)
  refine (HO.out w2).mono ?_
  rintro e w3 ⟨rfl, rfl⟩
  clear hc0' HO
  go_wp2_with (fail)
  go_loopw [3, 5] (fun v i wr => ∃ j : Nat, j ≤ n ∧ i = .int .i64 j ∧ Hid (Blk wr w.heap.size 35 (cellsOq o)) ∧ Hid (OwnB wr (w.heap.size + 1) v (o.kd :: encF o (l.take j)).length (o.kd :: encF o (l.take j))) ∧ Hid (Below w.heap.size w wr) ∧ Hid (w.heap.size + 1 ≤ wr.heap.size)) (fun _ i _ => n - (intOf i).toNat)
  case atStart => exact ⟨0, by omega, rfl, K2, O2, B2, Z2⟩
  case round =>
    clear K2 O2 B2 Z2
    obtain ⟨j, hj, rfl, K4, O4, B4, Z4⟩ := hrel
    by_cases hlt : j < n
    · obtain ⟨d, hd⟩ : ∃ d, l[j]? = some d := ⟨_, List.getElem?_eq_getElem (by rw [HN.out]; exact hlt)⟩
      have hidx := HX.out j d hd
      have HD := Lib.hid hd
      have HS : Hid ((o.kd :: encF o (l.take j)).length ≤ 1000) := Lib.hid (by
        have h1 := HI.out.2.2.1
        have := szs_takeR l j
        simp [encF_len]; omega)
      clear hd HX
      cases d with
      | ix =>
        have hidx2 : ∀ w : World, (Instr.index 9 (.string S) (.int .i64 (j : Int))).run Tryd.prog w = .ok (.int .u8 105) w := hidx
        have hcx : wr.cell? ⟨w.heap.size, 1, none⟩ = some (.int .i64 o.ix) := K4.out.cell 1
        obtain ⟨x, hx⟩ : ∃ x, IntKind.u64.wrap o.ix = x := ⟨_, rfl⟩
        have hxw := hx
        replace hx : Od.ix.get o = x := hx
        have hxb := Od.get_bd .ix HF.out
        have HA : Hid (encF o (l.take (j + 1)) = encF o (l.take j) ++ bigL x 2) := Lib.hid (by rw [encF_snocR HD.out]; show _ ++ bigL (Od.ix.get o) 2 = _; rw [hx])
        rw [hx] at hxb
        have HG := Lib.hid (big_any x 2 hxb.1 hxb.2 (by omega) wr)
        clear hidx hxb
        go_wp2_with (fail)
        refine HG.out.mono ?_
        rintro e w5 ⟨v5, rfl, o5, b5⟩
        obtain ⟨a5, c5, rfl, hl5, _, _, hb5⟩ := o5.bys (bigL_all x 2) (S := fun _ => False) (fun _ _ h => h)
        have Y5 := Lib.hid hb5
        have O5 : Hid (OwnB w5 (w.heap.size + 1) u3 (o.kd :: encF o (l.take j)).length (o.kd :: encF o (l.take j))) := Lib.hid (ownsR_below O4.out b5)
        have K5 := Lib.hid (K4.out.below b5 K4.out.lt)
        have B5 := Lib.hid (B4.out.trans (b5.mono B4.out.size))
        have Z5 : Hid (w.heap.size + 1 ≤ w5.heap.size) := Lib.hid (Nat.le_trans Z4.out b5.size)
        have HL5 : Hid ((o.kd :: encF o (l.take j)).length + 2 ≤ 100000) := Lib.hid (by have := HS.out; omega)
        clear hb5 o5 b5 O4 K4 B4 Z4 hcx HG hx
        go_wp2_with (refine arm_app O5.out Y5.out rfl _ _ rfl rfl rfl (bigL_len _ _) HL5.out Z5.out ?_; intro v' w' HO' HGr HVr; have P1 := Lib.hid HO'; have P2 := Lib.hid HGr; clear HO' HGr HVr)
        have hown : ∀ i, u3.ownBlock = some i → w.heap.size < i := fun i hi => by have := O5.out.ge hi; omega
        refine ⟨⟨j + 1, by omega, by go_num, Lib.hid (K5.out.grown P2.out fun h => by have := hown _ h.symm; omega), Lib.hid ?_, Lib.hid (B5.out.grown P2.out B5.out.size fun i hi => by have := hown _ hi; omega), Lib.hid (Nat.le_trans Z5.out P2.out.size)⟩, ?_⟩
        · rw [HA.out]
          have e : (o.kd :: (encF o (l.take j) ++ bigL x 2)) = (o.kd :: encF o (l.take j)) ++ bigL x 2 := rfl
          rw [e, List.length_append, bigL_len]
          exact P1.out
        · simp [intOf]; omega
      | tg =>
        have hidx2 : ∀ w : World, (Instr.index 9 (.string S) (.int .i64 (j : Int))).run Tryd.prog w = .ok (.int .u8 116) w := hidx
        have hcx : wr.cell? ⟨w.heap.size, 2, none⟩ = some (.int .i64 o.tg) := K4.out.cell 2
        obtain ⟨x, hx⟩ : ∃ x, IntKind.u64.wrap o.tg = x := ⟨_, rfl⟩
        have hxw := hx
        replace hx : Od.tg.get o = x := hx
        have hxb := Od.get_bd .tg HF.out
        have HA : Hid (encF o (l.take (j + 1)) = encF o (l.take j) ++ bigL x 2) := Lib.hid (by rw [encF_snocR HD.out]; show _ ++ bigL (Od.tg.get o) 2 = _; rw [hx])
        rw [hx] at hxb
        have HG := Lib.hid (big_any x 2 hxb.1 hxb.2 (by omega) wr)
        clear hidx hxb
        go_wp2_with (fail)
        refine HG.out.mono ?_
        rintro e w5 ⟨v5, rfl, o5, b5⟩
        obtain ⟨a5, c5, rfl, hl5, _, _, hb5⟩ := o5.bys (bigL_all x 2) (S := fun _ => False) (fun _ _ h => h)
        have Y5 := Lib.hid hb5
        have O5 : Hid (OwnB w5 (w.heap.size + 1) u3 (o.kd :: encF o (l.take j)).length (o.kd :: encF o (l.take j))) := Lib.hid (ownsR_below O4.out b5)
        have K5 := Lib.hid (K4.out.below b5 K4.out.lt)
        have B5 := Lib.hid (B4.out.trans (b5.mono B4.out.size))
        have Z5 : Hid (w.heap.size + 1 ≤ w5.heap.size) := Lib.hid (Nat.le_trans Z4.out b5.size)
        have HL5 : Hid ((o.kd :: encF o (l.take j)).length + 2 ≤ 100000) := Lib.hid (by have := HS.out; omega)
        clear hb5 o5 b5 O4 K4 B4 Z4 hcx HG hx
        go_wp2_with (refine arm_app O5.out Y5.out rfl _ _ rfl rfl rfl (bigL_len _ _) HL5.out Z5.out ?_; intro v' w' HO' HGr HVr; have P1 := Lib.hid HO'; have P2 := Lib.hid HGr; clear HO' HGr HVr)
        have hown : ∀ i, u3.ownBlock = some i → w.heap.size < i := fun i hi => by have := O5.out.ge hi; omega
        refine ⟨⟨j + 1, by omega, by go_num, Lib.hid (K5.out.grown P2.out fun h => by have := hown _ h.symm; omega), Lib.hid ?_, Lib.hid (B5.out.grown P2.out B5.out.size fun i hi => by have := hown _ hi; omega), Lib.hid (Nat.le_trans Z5.out P2.out.size)⟩, ?_⟩
        · rw [HA.out]
          have e : (o.kd :: (encF o (l.take j) ++ bigL x 2)) = (o.kd :: encF o (l.take j)) ++ bigL x 2 := rfl
          rw [e, List.length_append, bigL_len]
          exact P1.out
        · simp [intOf]; omega
      | am =>
        have hidx2 : ∀ w : World, (Instr.index 9 (.string S) (.int .i64 (j : Int))).run Tryd.prog w = .ok (.int .u8 97) w := hidx
        have hcx : wr.cell? ⟨w.heap.size, 3, none⟩ = some (.int .u64 o.am) := K4.out.cell 3
        obtain ⟨x, hx⟩ : ∃ x, o.am = x := ⟨_, rfl⟩
        rw [hx] at hcx
        replace hx : Od.am.get o = x := hx
        have hxb := Od.get_bd .am HF.out
        have HA : Hid (encF o (l.take (j + 1)) = encF o (l.take j) ++ bigL x 8) := Lib.hid (by rw [encF_snocR HD.out]; show _ ++ bigL (Od.am.get o) 8 = _; rw [hx])
        rw [hx] at hxb
        have HG := Lib.hid (big_any x 8 hxb.1 hxb.2 (by omega) wr)
        clear hidx hxb
        go_wp2_with (fail)
        refine HG.out.mono ?_
        rintro e w5 ⟨v5, rfl, o5, b5⟩
        obtain ⟨a5, c5, rfl, hl5, _, _, hb5⟩ := o5.bys (bigL_all x 8) (S := fun _ => False) (fun _ _ h => h)
        have Y5 := Lib.hid hb5
        have O5 : Hid (OwnB w5 (w.heap.size + 1) u3 (o.kd :: encF o (l.take j)).length (o.kd :: encF o (l.take j))) := Lib.hid (ownsR_below O4.out b5)
        have K5 := Lib.hid (K4.out.below b5 K4.out.lt)
        have B5 := Lib.hid (B4.out.trans (b5.mono B4.out.size))
        have Z5 : Hid (w.heap.size + 1 ≤ w5.heap.size) := Lib.hid (Nat.le_trans Z4.out b5.size)
        have HL5 : Hid ((o.kd :: encF o (l.take j)).length + 8 ≤ 100000) := Lib.hid (by have := HS.out; omega)
        clear hb5 o5 b5 O4 K4 B4 Z4 hcx HG hx
        go_wp2_with (refine arm_app O5.out Y5.out rfl _ _ rfl rfl rfl (bigL_len _ _) HL5.out Z5.out ?_; intro v' w' HO' HGr HVr; have P1 := Lib.hid HO'; have P2 := Lib.hid HGr; clear HO' HGr HVr)
        have hown : ∀ i, u3.ownBlock = some i → w.heap.size < i := fun i hi => by have := O5.out.ge hi; omega
        refine ⟨⟨j + 1, by omega, by go_num, Lib.hid (K5.out.grown P2.out fun h => by have := hown _ h.symm; omega), Lib.hid ?_, Lib.hid (B5.out.grown P2.out B5.out.size fun i hi => by have := hown _ hi; omega), Lib.hid (Nat.le_trans Z5.out P2.out.size)⟩, ?_⟩
        · rw [HA.out]
          have e : (o.kd :: (encF o (l.take j) ++ bigL x 8)) = (o.kd :: encF o (l.take j)) ++ bigL x 8 := rfl
          rw [e, List.length_append, bigL_len]
          exact P1.out
        · simp [intOf]; omega
    · obtain rfl : j = n := by omega
      clear hlt
      have hlt : ¬ j < j := by omega
      have HEN : Hid (encL o = o.kd :: encF o (l.take j)) := Lib.hid (by rw [HE.out, List.take_of_length_le (by rw [HN.out]; exact Nat.le_refl _)])
      go_wp2_with (fail)
      go_ret
      exact ⟨_, rfl, by rw [HEN.out]; exact ownsR_base O4.out (Nat.le_succ _), B4.out⟩
end Go.Proofs.YtniehmlklbggdaaDoor
