/- slices.Clone of two kinds of records; receipt.Clone. -/
import Derived.Test.YtjbbcnepeffiaaaDoorPlain
import Derived.Test.YtjbbcnepeffiaaaDoorAppend
import Derived.Test.YtjbbcnepeffiaaaDoorBuild
import Derived.WalkSpells
import Derived.Deep.CutRange
namespace Go.Proofs.YtjbbcnepeffiaaaDoor
open Go Go.RowKit Go.Deep
set_option linter.unusedVariables false
set_option linter.unusedSimpArgs false
set_option maxRecDepth 100000

set_option maxHeartbeats 1600000 in
theorem cloneAs_any (a : Option Addr) (n c : Nat) (l : List As) (w : World) (S : Nat → Prop) (h : LstR As.row 3 w S a l) (hl : l.length = n) (hn : n ≤ 1000000) :
    Calls Tryd.prog 22 #[.slice a n c] w fun e w' => ∃ v, e = .returned v ∧ w'.ownsRow w.heap.size 32 3 v n (flatR As.row l) ∧ Below w.heap.size w w' := by
  rcases a with _ | a
  · have h0 : n = 0 := by
      rcases Nat.eq_zero_or_pos n with h0 | h0
      · exact h0
      · obtain ⟨b, off, e, _⟩ := h (by omega)
        cases e
    have hn0 : l = [] := List.eq_nil_of_length_eq_zero (by omega)
    subst hn0
    subst h0
    have hq : ∀ w, (binOp .eql 23 (.slice none 0 c) (.slice none 0 0)).run Tryd.prog w = .ok (.bool true) w := fun w => Lib.run_eql_slice_nil w _ _ _ _ _ _ _ Tryd.underlying23
    clear h hl hn
    go_enter Tryd.func22, Tryd.ntmps22
    go_wp2
    go_ret
    exact ⟨_, rfl, ⟨rfl, .inl ⟨rfl, rfl⟩⟩, Below.refl _ _⟩
  · have hq : ∀ w, (binOp .eql 23 (.slice (some a) n c) (.slice none 0 0)).run Tryd.prog w = .ok (.bool false) w := fun w => Lib.run_eql_slice_nil w _ _ _ _ _ _ _ Tryd.underlying23
    obtain ⟨i, hi, hz, hs, hby⟩ := appAs
    have BE : Hid (Blk (w.alloc (.cells #[] 32)) w.heap.size 32 #[]) := Lib.hid (Blk.new w _ _)
    have BA : Hid (Below w.heap.size w (w.alloc (.cells #[] 32))) := Lib.hid ((Below.refl _ _).alloc (Nat.le_refl _) _)
    have HS : Hid (0 < n → ∃ ad, some a = some ad ∧ ∀ j u, (flatR As.row l)[j]? = some u → (w.alloc (.cells #[] 32)).cell? (ad.add j) = some u) := Lib.hid (fun h0 => lstR_src As.row_len (by decide) h BA.out (by omega))
    have HL : Hid ((flatR As.row l).length = n * 3) := Lib.hid (by rw [flatR_len As.row_len, hl])
    have H1 : Hid (∀ u ∈ flatR As.row l, u.oneCell' = true) := Lib.hid (flatR_mem As.row_one)
    have HN := Lib.hid hn
    clear h hl hn
    generalize flatR As.row l = news at *
    go_enter Tryd.func22, Tryd.ntmps22
    go_wp2_with (at_builtin; refine wpList_append_src _ rfl _ _ 23 rfl w.heap.size 32 i (.agg (cellsAs asZ)) 3 24 Tryd.underlying23 hi hz hs hby rfl (by decide) (.slice (some ⟨w.heap.size, 0, none⟩) 0 0) 0 [] rfl (owns_empty BE.out (Nat.le_refl _)) (some a) n c news rfl HL.out HS.out H1.out (by have := HN.out; unfold maxLen; omega) (by have := HN.out; omega) (by simp) ?_)
    intro v w1 ho hg _
    have HO : Hid (w1.ownsRow w.heap.size 32 3 v n news) := Lib.hid (by simpa using ho)
    have HB : Hid (Below w.heap.size w w1) := Lib.hid (BA.out.grown hg (by simp) (fun k hk => by simp [Value.ownBlock] at hk; omega))
    clear ho hg BE BA HS
    go_wp2
    go_ret
    exact ⟨v, rfl, HO.out, HB.out⟩
set_option maxHeartbeats 1600000 in
theorem clonePm_any (a : Option Addr) (n c : Nat) (l : List Pm) (w : World) (S : Nat → Prop) (h : LstR Pm.row 3 w S a l) (hl : l.length = n) (hn : n ≤ 1000000) :
    Calls Tryd.prog 23 #[.slice a n c] w fun e w' => ∃ v, e = .returned v ∧ w'.ownsRow w.heap.size 35 3 v n (flatR Pm.row l) ∧ Below w.heap.size w w' := by
  rcases a with _ | a
  · have h0 : n = 0 := by
      rcases Nat.eq_zero_or_pos n with h0 | h0
      · exact h0
      · obtain ⟨b, off, e, _⟩ := h (by omega)
        cases e
    have hn0 : l = [] := List.eq_nil_of_length_eq_zero (by omega)
    subst hn0
    subst h0
    have hq : ∀ w, (binOp .eql 24 (.slice none 0 c) (.slice none 0 0)).run Tryd.prog w = .ok (.bool true) w := fun w => Lib.run_eql_slice_nil w _ _ _ _ _ _ _ Tryd.underlying24
    clear h hl hn
    go_enter Tryd.func23, Tryd.ntmps23
    go_wp2
    go_ret
    exact ⟨_, rfl, ⟨rfl, .inl ⟨rfl, rfl⟩⟩, Below.refl _ _⟩
  · have hq : ∀ w, (binOp .eql 24 (.slice (some a) n c) (.slice none 0 0)).run Tryd.prog w = .ok (.bool false) w := fun w => Lib.run_eql_slice_nil w _ _ _ _ _ _ _ Tryd.underlying24
    obtain ⟨i, hi, hz, hs, hby⟩ := appPm
    have BE : Hid (Blk (w.alloc (.cells #[] 35)) w.heap.size 35 #[]) := Lib.hid (Blk.new w _ _)
    have BA : Hid (Below w.heap.size w (w.alloc (.cells #[] 35))) := Lib.hid ((Below.refl _ _).alloc (Nat.le_refl _) _)
    have HS : Hid (0 < n → ∃ ad, some a = some ad ∧ ∀ j u, (flatR Pm.row l)[j]? = some u → (w.alloc (.cells #[] 35)).cell? (ad.add j) = some u) := Lib.hid (fun h0 => lstR_src Pm.row_len (by decide) h BA.out (by omega))
    have HL : Hid ((flatR Pm.row l).length = n * 3) := Lib.hid (by rw [flatR_len Pm.row_len, hl])
    have H1 : Hid (∀ u ∈ flatR Pm.row l, u.oneCell' = true) := Lib.hid (flatR_mem Pm.row_one)
    have HN := Lib.hid hn
    clear h hl hn
    generalize flatR Pm.row l = news at *
    go_enter Tryd.func23, Tryd.ntmps23
    go_wp2_with (at_builtin; refine wpList_append_src _ rfl _ _ 24 rfl w.heap.size 35 i (.agg (cellsPm pmZ)) 3 24 Tryd.underlying24 hi hz hs hby rfl (by decide) (.slice (some ⟨w.heap.size, 0, none⟩) 0 0) 0 [] rfl (owns_empty BE.out (Nat.le_refl _)) (some a) n c news rfl HL.out HS.out H1.out (by have := HN.out; unfold maxLen; omega) (by have := HN.out; omega) (by simp) ?_)
    intro v w1 ho hg _
    have HO : Hid (w1.ownsRow w.heap.size 35 3 v n news) := Lib.hid (by simpa using ho)
    have HB : Hid (Below w.heap.size w w1) := Lib.hid (BA.out.grown hg (by simp) (fun k hk => by simp [Value.ownBlock] at hk; omega))
    clear ho hg BE BA HS
    go_wp2
    go_ret
    exact ⟨v, rfl, HO.out, HB.out⟩
set_option maxHeartbeats 1600000 in
theorem clone_any (r : Rc) (la : List As) (lp : List Pm) (w : World) (hr : RcAt w (fun _ => False) r la lp) (hn : r.an ≤ 1000000 ∧ r.pn ≤ 1000000) :
    Calls Tryd.prog 13 #[.agg (cellsRc r)] w fun e w' => ∃ a2 c2 p2 d2, e = .returned (.agg (cellsRc { r with aa := a2, ac := c2, pa := p2, pc := d2 })) ∧
      (w'.ownsRow (w.heap.size + 2) 32 3 (.slice a2 r.an c2) r.an (flatR As.row la) ∧ r.an ≤ c2 ∧ c2 ≤ maxLen) ∧ (w'.ownsRow (w.heap.size + 2) 35 3 (.slice p2 r.pn d2) r.pn (flatR Pm.row lp) ∧ r.pn ≤ d2 ∧ d2 ≤ maxLen) ∧ Below w.heap.size w w' := by
  have HR := Lib.hid hr
  have HN := Lib.hid hn
  have K0 : Hid (Blk ((w.alloc (.cells (cellsRc r) 26)).alloc (.cells (cellsRc rcZ) 26)) w.heap.size 26 (cellsRc r)) := Lib.hid ((Blk.new w _ _).alloc _)
  have Z0 : Hid (Blk ((w.alloc (.cells (cellsRc r) 26)).alloc (.cells (cellsRc rcZ) 26)) (w.heap.size + 1) 26 (cellsRc rcZ)) := Lib.hid (by
    have h := Blk.new (w.alloc (.cells (cellsRc r) 26)) 26 (cellsRc rcZ)
    rwa [show (w.alloc (.cells (cellsRc r) 26)).heap.size = w.heap.size + 1 by simp] at h)
  have B0 : Hid (Below w.heap.size w ((w.alloc (.cells (cellsRc r) 26)).alloc (.cells (cellsRc rcZ) 26))) := Lib.hid (((Below.refl _ _).alloc (Nat.le_refl _) _).alloc (by simp) _)
  clear hr hn
  go_enter Tryd.func13, Tryd.ntmps13
  go_upto_region 1 with (fail)
  generalize hW : (w.alloc (.cells (cellsRc r) 26)).alloc (.cells _ 26) = W
  have eW : (w.alloc (.cells (cellsRc r) 26)).alloc (.cells (cellsRc rcZ) 26) = W := hW
  rw [eW] at K0 Z0 B0
  clear hW eW
  have c6 : W.cell? ⟨w.heap.size, 6, none⟩ = some (.slice r.aa r.an r.ac) := K0.out.cell 6
  go_wp2_with (fail)
  refine (cloneAs_any r.aa r.an r.ac la W (fun _ => False) (HR.out.asg.below B0.out) HR.out.an HN.out.1).mono ?_
  rintro e w1 ⟨v, rfl, o1, b1⟩
  obtain ⟨a2, c2, rfl, e6, g6⟩ := ownsR_slice o1
  have K1 := Lib.hid (K0.out.below b1 K0.out.lt)
  have Z1 := Lib.hid (Z0.out.below b1 Z0.out.lt)
  have D1 := Lib.hid (B0.out.trans (b1.mono B0.out.size))
  have m6 : w1.cell? ⟨w.heap.size, 6, none⟩ = some (.slice r.aa r.an r.ac) := K1.out.cell 6
  have f6 : w1.frozen? ⟨w.heap.size, 6, none⟩ = false := K1.out.frozen 6
  have O1 := Lib.hid (And.intro o1 (And.intro e6 g6))
  have HWL := Lib.hid Z0.out.lt
  clear o1 b1 c6 e6 g6
  go_upto_region 2 with (fail)
  have K2 : Hid (Blk (w1.setCell ⟨w.heap.size, 6, none⟩ (.slice a2 r.an c2)) w.heap.size 26 (cellsRc { r with aa := a2, ac := c2 })) := Lib.hid (K1.out.set_ 6 _)
  have Z2 := Lib.hid (Z1.out.far (p := ⟨w.heap.size, 6, none⟩) (by simp) (.slice a2 r.an c2))
  have B2 : Hid (Below w.heap.size w (w1.setCell ⟨w.heap.size, 6, none⟩ (.slice a2 r.an c2))) := Lib.hid (D1.out.setCell (Nat.le_refl _) _)
  have OA : Hid ((w1.setCell ⟨w.heap.size, 6, none⟩ (.slice a2 r.an c2)).ownsRow (w.heap.size + 2) 32 3 (.slice a2 r.an c2) r.an (flatR As.row la) ∧ r.an ≤ c2 ∧ c2 ≤ maxLen) := Lib.hid ⟨ownsR_base (ownsR_same O1.out.1 (fun i hi => Below.heap_setCell _ _ _ _ (by have := (O1.out.1.lt i hi).1; have := HWL.out; simp; omega))) (by have := HWL.out; omega), O1.out.2⟩
  clear O1 K1 Z1 D1 m6 f6 K0 B0 Z0
  generalize w1.setCell ⟨w.heap.size, 6, none⟩ (.slice a2 r.an c2) = w2 at *
  have c7 : w2.cell? ⟨w.heap.size, 7, none⟩ = some (.slice r.pa r.pn r.pc) := K2.out.cell 7
  go_wp2_with (fail)
  refine (clonePm_any r.pa r.pn r.pc lp w2 (fun _ => False) (HR.out.pay.below B2.out) HR.out.pn HN.out.2).mono ?_
  rintro e w3 ⟨v, rfl, o1, b1⟩
  obtain ⟨p2, d2, rfl, e7, g7⟩ := ownsR_slice o1
  have K1 := Lib.hid (K2.out.below b1 K2.out.lt)
  have Z1 := Lib.hid (Z2.out.below b1 Z2.out.lt)
  have D1 := Lib.hid (B2.out.trans (b1.mono B2.out.size))
  have OA1 := Lib.hid (And.intro (ownsR_below OA.out.1 b1) OA.out.2)
  clear OA
  have m7 : w3.cell? ⟨w.heap.size, 7, none⟩ = some (.slice r.pa r.pn r.pc) := K1.out.cell 7
  have f7 : w3.frozen? ⟨w.heap.size, 7, none⟩ = false := K1.out.frozen 7
  have O1 := Lib.hid (And.intro o1 (And.intro e7 g7))
  have HWL := Lib.hid Z2.out.lt
  clear o1 b1 c7 e7 g7
  go_upto_region 3 with (fail)
  have K4 : Hid (Blk (w3.setCell ⟨w.heap.size, 7, none⟩ (.slice p2 r.pn d2)) w.heap.size 26 (cellsRc { r with aa := a2, ac := c2, pa := p2, pc := d2 })) := Lib.hid (K1.out.set_ 7 _)
  have Z4 := Lib.hid (Z1.out.far (p := ⟨w.heap.size, 7, none⟩) (by simp) (.slice p2 r.pn d2))
  have B4 : Hid (Below w.heap.size w (w3.setCell ⟨w.heap.size, 7, none⟩ (.slice p2 r.pn d2))) := Lib.hid (D1.out.setCell (Nat.le_refl _) _)
  have OP : Hid ((w3.setCell ⟨w.heap.size, 7, none⟩ (.slice p2 r.pn d2)).ownsRow (w.heap.size + 2) 35 3 (.slice p2 r.pn d2) r.pn (flatR Pm.row lp) ∧ r.pn ≤ d2 ∧ d2 ≤ maxLen) := Lib.hid ⟨ownsR_base (ownsR_same O1.out.1 (fun i hi => Below.heap_setCell _ _ _ _ (by have := (O1.out.1.lt i hi).1; have := HWL.out; simp; omega))) (by have := HWL.out; omega), O1.out.2⟩
  have OA2 : Hid ((w3.setCell ⟨w.heap.size, 7, none⟩ (.slice p2 r.pn d2)).ownsRow (w.heap.size + 2) 32 3 (.slice a2 r.an c2) r.an (flatR As.row la) ∧ r.an ≤ c2 ∧ c2 ≤ maxLen) := Lib.hid ⟨ownsR_same OA1.out.1 (fun i hi => Below.heap_setCell _ _ _ _ (by have := (OA1.out.1.lt i hi).1; simp; omega)), OA1.out.2⟩
  clear OA1
  clear O1 K1 Z1 D1 m7 f7 K2 B2 Z2
  generalize w3.setCell ⟨w.heap.size, 7, none⟩ (.slice p2 r.pn d2) = w4 at *
  go_wp2_with (first | (refine wpList_load_row rfl 26 _ rfl w.heap.size rfl 26 (cellsRc { r with aa := a2, ac := c2, pa := p2, pc := d2 }) (0, 0) _ K4.out Tryd.underlying26 rfl infoRc ?_) | (refine wpList_store_row rfl _ _ _ rfl (w.heap.size + 1) (cellsRc { r with aa := a2, ac := c2, pa := p2, pc := d2 }) rfl rfl 26 _ Z4.out infoRc rfl (cellsRc_one _) ?_))
  exact bodyPost_ret (v := .agg (cellsRc { r with aa := a2, ac := c2, pa := p2, pc := d2 })) (results_cell_row (fn := Tryd.f13) rfl _ _ (w.heap.size + 1) 26 _ (0, 0) _ rfl (setRow_heap _ _ _ _ _ _ Z4.out) Tryd.underlying26 rfl infoRc) rfl
    ⟨a2, c2, p2, d2, rfl, ⟨ownsR_same OA2.out.1 (fun i hi => setRow_other _ _ _ _ (by have := (OA2.out.1.lt i hi).1; omega)), OA2.out.2⟩, ⟨ownsR_same OP.out.1 (fun i hi => setRow_other _ _ _ _ (by have := (OP.out.1.lt i hi).1; omega)), OP.out.2⟩, below_setRow B4.out (by omega) _⟩
end Go.Proofs.YtjbbcnepeffiaaaDoor
