/- The reference's Payments and Assigned (written by mkrl.py). -/
import Derived.Test.YthnhpmeacboljaaRf1
namespace Go.Proofs.Ythnhpmeacboljaa
open Go Go.RowKit Go.Deep
set_option linter.unusedVariables false
set_option linter.unusedSimpArgs false
set_option maxRecDepth 100000

theorem py_take {L : List Ev} {k : Nat} {e : Ev} (h : L[k]? = some e) (i : Int) : (stL (L.take (k + 1))).py i = (stL (L.take k)).py i ++ if e.r.cd = 0 then e.lp.filter fun p => decide (p.ix = i) else [] := by
  rw [stL_take h, addS_py]
  by_cases hc : e.r.cd = 0
  · rw [if_pos hc, if_pos hc, pyAll_at]
  · rw [if_neg hc, if_neg hc, List.append_nil]
theorem an_take {L : List Ev} {k : Nat} {e : Ev} (h : L[k]? = some e) (i : Int) : (stL (L.take (k + 1))).an i = (stL (L.take k)).an i ++ if e.r.cd = 0 then e.la.filter fun p => decide (p.ep = i) else [] := by
  rw [stL_take h, addS_an]
  by_cases hc : e.r.cd = 0
  · rw [if_pos hc, if_pos hc, anAll_at]
  · rw [if_neg hc, if_neg hc, List.append_nil]
set_option maxHeartbeats 6400000 in
theorem refpayments_any (rb : Nat) (L : List Ev) (i : Int) (w : World) (h : RLogAt w rb L) (hl : L.length ≤ 1000000) (hb : ((stL L).py i).length ≤ 1000000) (hpf : ∀ k, ((stL (L.take k)).py i).length ≤ 1000000) (hlr : ∀ e ∈ L, e.lp.length ≤ 1000000) :
    Calls Try.prog 14 #[.pointer (some ⟨rb, 0, none⟩), .int .i64 i] w fun e w' => RowPost Pm.row 3 41 w ((stL L).py i) e w' := by
  obtain ⟨oa, oc, ra, rc, hL⟩ := h
  have HL := Lib.hid hL
  have HPF := Lib.hid hpf
  have HLR := Lib.hid hlr
  clear hL hpf hlr
  obtain ⟨n, hn⟩ : ∃ n, L.length = n := ⟨_, rfl⟩
  have HN := Lib.hid hn
  have y1 : w.cell? ⟨rb, 1, none⟩ = some (.slice ra n rc) := by rw [← hn]; exact HL.out.blk.cell 1
  rw [hn] at hl
  clear hn
  go_enter Try.func14, Try.ntmps14
  go_wp2_with (fail)
  go_loopw [5, 6] (fun s5 s6 wr => ∃ (k : Nat) (a : Option Addr) (q cp : Nat), k ≤ n ∧ s6 = .int .i64 k ∧ s5 = .slice a q cp ∧ Hid (((stL (L.take k)).py i).length = q ∧ wr.ownsRow w.heap.size 41 3 (.slice a q cp) q (flatR Pm.row ((stL (L.take k)).py i)) ∧ Below w.heap.size w wr)) (fun _ s6 _ => n - (intOf s6).toNat)
  case atStart => exact ⟨0, none, 0, 0, by omega, rfl, rfl, Lib.hid ⟨rfl, ⟨rfl, .inl ⟨rfl, rfl⟩⟩, Below.refl _ _⟩⟩
  case round =>
    clear y1
    obtain ⟨k, a, q, cp, hk, rfl, rfl, HA⟩ := hrel
    have HRL := Lib.hid (HL.out.below HA.out.2.2)
    have y1 : wr.cell? ⟨rb, 1, none⟩ = some (.slice ra n rc) := by rw [← HN.out]; exact HRL.out.blk.cell 1
    by_cases hlt : k < n
    · obtain ⟨e, he⟩ : ∃ e, L[k]? = some e := ⟨_, List.getElem?_eq_getElem (by rw [HN.out]; exact hlt)⟩
      obtain ⟨g2, o2, hq2, r2⟩ := HRL.out.rcp he
      subst hq2
      have RR := Lib.hid r2
      have HAT : Hid (∀ wx, Below w.heap.size w wx → RcAt wx (fun _ => False) e.r e.la e.lp) := Lib.hid (fun wx hb => (HL.out.below hb).at_ e (List.mem_of_getElem? he))
      have HTK := Lib.hid (py_take he i)
      have HLL : Hid (e.lp.length ≤ 1000000) := Lib.hid (HLR.out e (List.mem_of_getElem? he))
      have hki : (0 : Int) ≤ (k : Int) := by omega
      have hkn : (k : Int) < (n : Int) := by omega
      have hk1 : ¬ (k : Int) < 0 := by omega
      have hk2 : ¬ (n : Int) ≤ (k : Int) := by omega
      clear he r2
      go_upto_region 6 with (first | (refine wpList_load_Rc rfl 60 _ rfl g2 (o2 + k * 9) rfl e.r _ RR.out Try.underlying60 rfl infoRc ?_) | (refine wpList_store_row rfl _ _ _ rfl wr.heap.size (cellsRc e.r) rfl rfl 60 _ (heap_alloc_new wr _) infoRc rfl (cellsRc_one _) ?_; rw [World.setRow_alloc_new]))
      have HA2 : Hid ((wr.alloc (.cells (cellsRc e.r) 60)).ownsRow w.heap.size 41 3 (.slice a q cp) q (flatR Pm.row ((stL (L.take k)).py i)) ∧ Below w.heap.size w (wr.alloc (.cells (cellsRc e.r) 60))) := Lib.hid ⟨ownsR_below HA.out.2.1 ((Below.refl _ _).alloc (Nat.le_refl _) _), HA.out.2.2.alloc HA.out.2.2.size _⟩
      have KX : Hid (Blk (wr.alloc (.cells (cellsRc e.r) 60)) wr.heap.size 60 (cellsRc e.r)) := Lib.hid (Blk.new _ _ _)
      have HQ0 := Lib.hid HA.out.1
      have HRX : Hid (w.heap.size ≤ wr.heap.size) := Lib.hid HA.out.2.2.size
      clear HA HRL RR y1
      generalize wr.heap.size = rx at *
      generalize wr.alloc (.cells (cellsRc e.r) 60) = W3 at *
      clear wr
      have hsn : e.r.pn ≤ 9223372036854775807 := by have := (HAT.out W3 HA2.out.2).pc; unfold maxLen at this; omega
      have HLA : Hid (e.lp.length = e.r.pn) := Lib.hid (HAT.out W3 HA2.out.2).pn
      have x7 : W3.cell? ⟨rx, 7, none⟩ = some (.slice e.r.pa e.r.pn e.r.pc) := KX.out.cell 7
      go_wp2_with (fail)
      clear x7
      have HA0 : Hid (W3.ownsRow w.heap.size 41 3 (.slice a q cp) q (flatR Pm.row ((stL (L.take k)).py i ++ if e.r.cd = 0 then (e.lp.take 0).filter (fun p => decide (p.ix = i)) else [])) ∧ ((stL (L.take k)).py i ++ if e.r.cd = 0 then (e.lp.take 0).filter (fun p => decide (p.ix = i)) else []).length = q ∧ Below w.heap.size w W3 ∧ Blk W3 rx 60 (cellsRc e.r)) := Lib.hid (by
        simp only [List.take_zero, List.filter_nil, ite_self, List.append_nil]
        exact ⟨HA2.out.1, HQ0.out, HA2.out.2, KX.out⟩)
      clear HA2 KX
      obtain ⟨wb, hwb⟩ : ∃ wb, W3 = wb := ⟨_, rfl⟩
      subst hwb
      go_loopw [5, 8] (fun s5 s8 wr => ∃ (j : Nat) (a' : Option Addr) (q' cp' : Nat), j ≤ e.r.pn ∧ s8 = .int .i64 j ∧ s5 = .slice a' q' cp' ∧ Hid (wr.ownsRow w.heap.size 41 3 (.slice a' q' cp') q' (flatR Pm.row ((stL (L.take k)).py i ++ if e.r.cd = 0 then (e.lp.take j).filter (fun p => decide (p.ix = i)) else [])) ∧ ((stL (L.take k)).py i ++ if e.r.cd = 0 then (e.lp.take j).filter (fun p => decide (p.ix = i)) else []).length = q' ∧ Below w.heap.size w wr ∧ Blk wr rx 60 (cellsRc e.r))) (fun _ s8 _ => e.r.pn - (intOf s8).toNat)
      case atStart => exact ⟨0, a, q, cp, by omega, rfl, rfl, HA0⟩
      case round =>
        clear HA0 W3
        obtain ⟨j, a', q', cp', hj, rfl, rfl, HJ⟩ := hrel
        have x7 : wr.cell? ⟨rx, 7, none⟩ = some (.slice e.r.pa e.r.pn e.r.pc) := HJ.out.2.2.2.cell 7
        have x1 : wr.cell? ⟨rx, 1, none⟩ = some (.int .i64 e.r.cd) := HJ.out.2.2.2.cell 1
        by_cases hlj : j < e.r.pn
        · obtain ⟨p, hp⟩ : ∃ p, e.lp[j]? = some p := ⟨_, List.getElem?_eq_getElem (by rw [HLA.out]; exact hlj)⟩
          obtain ⟨g3, o3, hg3, _, _, r3⟩ := (HAT.out wr HJ.out.2.2.1).pay.at hp
          have RP := Lib.hid r3
          have a0 : wr.cell? ⟨g3, o3 + j * 3, none⟩ = some (.int .i64 p.ix) := range0 r3 rfl
          have HTJ : Hid (e.lp.take (j + 1) = e.lp.take j ++ [p]) := Lib.hid (by rw [List.take_add_one, hp]; rfl)
          have HPL : Hid (q' ≤ 2000000) := Lib.hid (by
            rw [← HJ.out.2.1, List.length_append]
            have h1 := HPF.out k
            have h2 : (if e.r.cd = 0 then (e.lp.take j).filter (fun p => decide (p.ix = i)) else []).length ≤ 1000000 := by
              split
              · have h3 := List.length_filter_le (fun p => decide (p.ix = i)) (e.lp.take j)
                have h4 : (e.lp.take j).length ≤ e.lp.length := List.length_take_le' j e.lp
                have := HLL.out
                omega
              · simp
            omega)
          rw [hg3] at x7
          have hji : (0 : Int) ≤ (j : Int) := by omega
          have hjn : (j : Int) < (e.r.pn : Int) := by omega
          have hj1 : ¬ (j : Int) < 0 := by omega
          have hj2 : ¬ (e.r.pn : Int) ≤ (j : Int) := by omega
          clear hp hg3 r3
          by_cases hcd : e.r.cd = 0
          · have x1' : wr.cell? ⟨rx, 1, none⟩ = some (.int .i64 0) := by rw [← hcd]; exact x1
            have HCD := Lib.hid hcd
            clear x1 hcd
            by_cases hi : p.ix = i
            · have hb : (p.ix == i) = true := by simpa using hi
              have HI := Lib.hid hi
              have HOW : Hid ((wr.alloc (.cells (cellsPm p) 41)).ownsRow w.heap.size 41 3 (.slice a' q' cp') q' (flatR Pm.row ((stL (L.take k)).py i ++ if e.r.cd = 0 then (e.lp.take j).filter (fun p => decide (p.ix = i)) else []))) := Lib.hid (ownsR_below HJ.out.1 ((Below.refl _ _).alloc (Nat.le_refl _) _))
              have HBW : Hid (Below w.heap.size w (wr.alloc (.cells (cellsPm p) 41)) ∧ w.heap.size ≤ wr.heap.size ∧ Blk (wr.alloc (.cells (cellsPm p) 41)) rx 60 (cellsRc e.r)) := Lib.hid ⟨HJ.out.2.2.1.alloc HJ.out.2.2.1.size _, HJ.out.2.2.1.size, HJ.out.2.2.2.alloc _⟩
              have KN : Hid (Blk (wr.alloc (.cells (cellsPm p) 41)) wr.heap.size 41 (cellsPm p)) := Lib.hid (Blk.new _ _ _)
              obtain ⟨i8, hi8, hz8, hs8, hb8⟩ := appPm
              clear hi
              go_wp2_with (first | (refine wpList_load_Pm rfl 41 _ rfl g3 (o3 + j * 3) rfl p _ RP.out Try.underlying41 rfl infoPm ?_) | (refine wpList_onePm rfl _ p rfl rfl ?_) | (refine wpList_append_src _ rfl _ _ 39 rfl w.heap.size 41 i8 _ 3 24 Try.underlying39 hi8 hz8 hs8 hb8 rfl (by omega) (.slice a' q' cp') q' _ rfl HOW.out (some ⟨wr.heap.size, 0, none⟩) 1 1 p.row rfl rfl (fun _ => ⟨_, rfl, fun j u hu => by rw [add_plain, Nat.zero_add]; have := KN.out.rangePm j u hu; rwa [Nat.zero_add] at this⟩) (Pm.row_one p) (by have := HPL.out; unfold maxLen; omega) (by have := HPL.out; omega) (by have := HBW.out.2.1; simp; omega) ?_; intro v' w4 ho4 hg4 hs4; obtain ⟨a4, c4, rfl, -, -⟩ := ownsR_slice ho4; clear hs4))
              go_roundw
              case rel =>
                refine ⟨j + 1, a4, q' + 1, c4, by omega, by go_num, rfl, Lib.hid ⟨?_, ?_, ?_, ?_⟩⟩
                · rw [if_pos HCD.out] at ho4
                  rw [HTJ.out, if_pos HCD.out, List.filter_append, show List.filter (fun p => decide (p.ix = i)) [p] = [p] by simp [HI.out], ← List.append_assoc, flatR_append, flatR_one]
                  exact ho4
                · have h5 := HJ.out.2.1
                  rw [if_pos HCD.out] at h5
                  rw [HTJ.out, if_pos HCD.out, List.filter_append, show List.filter (fun p => decide (p.ix = i)) [p] = [p] by simp [HI.out], ← List.append_assoc, List.length_append, h5]
                  rfl
                · exact HBW.out.1.grown hg4 (by have := HBW.out.2.1; simp; omega) (fun g hg => (ownsR_blk HOW.out hg).choose_spec.2)
                · refine HBW.out.2.2.grown hg4 (fun he => ?_)
                  obtain ⟨cur, hB, _⟩ := ownsR_blk HOW.out he.symm
                  exact Blk.ne_ HBW.out.2.2 hB (by decide) rfl
              case measure => simp [intOf]; omega
            · have hb : (p.ix == i) = false := by simpa using hi
              have HI := Lib.hid hi
              clear hi
              go_wp2_with (fail)
              go_roundw
              case rel =>
                refine ⟨j + 1, a', q', cp', by omega, by go_num, rfl, Lib.hid ?_⟩
                rw [HTJ.out, List.filter_append, show List.filter (fun p => decide (p.ix = i)) [p] = [] by simp [HI.out], List.append_nil]
                exact HJ.out
              case measure => simp [intOf]; omega
          · have d : (e.r.cd == 0) = false := by simpa using hcd
            have HCD := Lib.hid hcd
            clear hcd
            go_wp2_with (fail)
            go_roundw
            case rel =>
              refine ⟨j + 1, a', q', cp', by omega, by go_num, rfl, Lib.hid ?_⟩
              have h5 := HJ.out
              rw [if_neg HCD.out] at h5 ⊢
              exact h5
            case measure => simp [intOf]; omega
        · have HJ2 : Hid (((stL (L.take (k + 1))).py i).length = q' ∧ wr.ownsRow w.heap.size 41 3 (.slice a' q' cp') q' (flatR Pm.row ((stL (L.take (k + 1))).py i)) ∧ Below w.heap.size w wr) := Lib.hid (by
            have h5 := HJ.out
            rw [show e.lp.take j = e.lp from List.take_of_length_le (by rw [HLA.out]; omega)] at h5
            rw [HTK.out]
            exact ⟨h5.2.1, h5.1, h5.2.2.1⟩)
          clear HJ
          have hje : j = e.r.pn := by omega
          generalize e.r.pn = sn at *
          subst hje
          clear hlj
          have hlj : ¬ j < j := by omega
          go_wp2_with (fail)
          go_roundw
          case rel => exact ⟨k + 1, a', q', cp', by omega, by go_num, rfl, HJ2⟩
          case measure => simp [intOf]; omega
    · obtain rfl : k = n := by omega
      clear hlt
      have hlt : ¬ k < k := by omega
      have hT : L.take k = L := List.take_of_length_le (by rw [HN.out]; exact Nat.le_refl _)
      go_wp2_with (fail)
      go_ret
      have := HA.out
      rw [hT] at this
      obtain ⟨h1, h2, h3⟩ := this
      subst h1
      exact ⟨a, cp, rfl, h2, h3⟩
set_option maxHeartbeats 6400000 in
theorem refassigned_any (rb : Nat) (L : List Ev) (i : Int) (w : World) (h : RLogAt w rb L) (hl : L.length ≤ 1000000) (hb : ((stL L).an i).length ≤ 1000000) (hpf : ∀ k, ((stL (L.take k)).an i).length ≤ 1000000) (hlr : ∀ e ∈ L, e.la.length ≤ 1000000) :
    Calls Try.prog 17 #[.pointer (some ⟨rb, 0, none⟩), .int .i64 i] w fun e w' => RowPost As.row 3 47 w ((stL L).an i) e w' := by
  obtain ⟨oa, oc, ra, rc, hL⟩ := h
  have HL := Lib.hid hL
  have HPF := Lib.hid hpf
  have HLR := Lib.hid hlr
  clear hL hpf hlr
  obtain ⟨n, hn⟩ : ∃ n, L.length = n := ⟨_, rfl⟩
  have HN := Lib.hid hn
  have y1 : w.cell? ⟨rb, 1, none⟩ = some (.slice ra n rc) := by rw [← hn]; exact HL.out.blk.cell 1
  rw [hn] at hl
  clear hn
  go_enter Try.func17, Try.ntmps17
  go_wp2_with (fail)
  go_loopw [5, 6] (fun s5 s6 wr => ∃ (k : Nat) (a : Option Addr) (q cp : Nat), k ≤ n ∧ s6 = .int .i64 k ∧ s5 = .slice a q cp ∧ Hid (((stL (L.take k)).an i).length = q ∧ wr.ownsRow w.heap.size 47 3 (.slice a q cp) q (flatR As.row ((stL (L.take k)).an i)) ∧ Below w.heap.size w wr)) (fun _ s6 _ => n - (intOf s6).toNat)
  case atStart => exact ⟨0, none, 0, 0, by omega, rfl, rfl, Lib.hid ⟨rfl, ⟨rfl, .inl ⟨rfl, rfl⟩⟩, Below.refl _ _⟩⟩
  case round =>
    clear y1
    obtain ⟨k, a, q, cp, hk, rfl, rfl, HA⟩ := hrel
    have HRL := Lib.hid (HL.out.below HA.out.2.2)
    have y1 : wr.cell? ⟨rb, 1, none⟩ = some (.slice ra n rc) := by rw [← HN.out]; exact HRL.out.blk.cell 1
    by_cases hlt : k < n
    · obtain ⟨e, he⟩ : ∃ e, L[k]? = some e := ⟨_, List.getElem?_eq_getElem (by rw [HN.out]; exact hlt)⟩
      obtain ⟨g2, o2, hq2, r2⟩ := HRL.out.rcp he
      subst hq2
      have RR := Lib.hid r2
      have HAT : Hid (∀ wx, Below w.heap.size w wx → RcAt wx (fun _ => False) e.r e.la e.lp) := Lib.hid (fun wx hb => (HL.out.below hb).at_ e (List.mem_of_getElem? he))
      have HTK := Lib.hid (an_take he i)
      have HLL : Hid (e.la.length ≤ 1000000) := Lib.hid (HLR.out e (List.mem_of_getElem? he))
      have hki : (0 : Int) ≤ (k : Int) := by omega
      have hkn : (k : Int) < (n : Int) := by omega
      have hk1 : ¬ (k : Int) < 0 := by omega
      have hk2 : ¬ (n : Int) ≤ (k : Int) := by omega
      clear he r2
      go_upto_region 6 with (first | (refine wpList_load_Rc rfl 60 _ rfl g2 (o2 + k * 9) rfl e.r _ RR.out Try.underlying60 rfl infoRc ?_) | (refine wpList_store_row rfl _ _ _ rfl wr.heap.size (cellsRc e.r) rfl rfl 60 _ (heap_alloc_new wr _) infoRc rfl (cellsRc_one _) ?_; rw [World.setRow_alloc_new]))
      have HA2 : Hid ((wr.alloc (.cells (cellsRc e.r) 60)).ownsRow w.heap.size 47 3 (.slice a q cp) q (flatR As.row ((stL (L.take k)).an i)) ∧ Below w.heap.size w (wr.alloc (.cells (cellsRc e.r) 60))) := Lib.hid ⟨ownsR_below HA.out.2.1 ((Below.refl _ _).alloc (Nat.le_refl _) _), HA.out.2.2.alloc HA.out.2.2.size _⟩
      have KX : Hid (Blk (wr.alloc (.cells (cellsRc e.r) 60)) wr.heap.size 60 (cellsRc e.r)) := Lib.hid (Blk.new _ _ _)
      have HQ0 := Lib.hid HA.out.1
      have HRX : Hid (w.heap.size ≤ wr.heap.size) := Lib.hid HA.out.2.2.size
      clear HA HRL RR y1
      generalize wr.heap.size = rx at *
      generalize wr.alloc (.cells (cellsRc e.r) 60) = W3 at *
      clear wr
      have hsn : e.r.an ≤ 9223372036854775807 := by have := (HAT.out W3 HA2.out.2).ac; unfold maxLen at this; omega
      have HLA : Hid (e.la.length = e.r.an) := Lib.hid (HAT.out W3 HA2.out.2).an
      have x7 : W3.cell? ⟨rx, 6, none⟩ = some (.slice e.r.aa e.r.an e.r.ac) := KX.out.cell 6
      go_wp2_with (fail)
      clear x7
      have HA0 : Hid (W3.ownsRow w.heap.size 47 3 (.slice a q cp) q (flatR As.row ((stL (L.take k)).an i ++ if e.r.cd = 0 then (e.la.take 0).filter (fun p => decide (p.ep = i)) else [])) ∧ ((stL (L.take k)).an i ++ if e.r.cd = 0 then (e.la.take 0).filter (fun p => decide (p.ep = i)) else []).length = q ∧ Below w.heap.size w W3 ∧ Blk W3 rx 60 (cellsRc e.r)) := Lib.hid (by
        simp only [List.take_zero, List.filter_nil, ite_self, List.append_nil]
        exact ⟨HA2.out.1, HQ0.out, HA2.out.2, KX.out⟩)
      clear HA2 KX
      obtain ⟨wb, hwb⟩ : ∃ wb, W3 = wb := ⟨_, rfl⟩
      subst hwb
      go_loopw [5, 8] (fun s5 s8 wr => ∃ (j : Nat) (a' : Option Addr) (q' cp' : Nat), j ≤ e.r.an ∧ s8 = .int .i64 j ∧ s5 = .slice a' q' cp' ∧ Hid (wr.ownsRow w.heap.size 47 3 (.slice a' q' cp') q' (flatR As.row ((stL (L.take k)).an i ++ if e.r.cd = 0 then (e.la.take j).filter (fun p => decide (p.ep = i)) else [])) ∧ ((stL (L.take k)).an i ++ if e.r.cd = 0 then (e.la.take j).filter (fun p => decide (p.ep = i)) else []).length = q' ∧ Below w.heap.size w wr ∧ Blk wr rx 60 (cellsRc e.r))) (fun _ s8 _ => e.r.an - (intOf s8).toNat)
      case atStart => exact ⟨0, a, q, cp, by omega, rfl, rfl, HA0⟩
      case round =>
        clear HA0 W3
        obtain ⟨j, a', q', cp', hj, rfl, rfl, HJ⟩ := hrel
        have x7 : wr.cell? ⟨rx, 6, none⟩ = some (.slice e.r.aa e.r.an e.r.ac) := HJ.out.2.2.2.cell 6
        have x1 : wr.cell? ⟨rx, 1, none⟩ = some (.int .i64 e.r.cd) := HJ.out.2.2.2.cell 1
        by_cases hlj : j < e.r.an
        · obtain ⟨p, hp⟩ : ∃ p, e.la[j]? = some p := ⟨_, List.getElem?_eq_getElem (by rw [HLA.out]; exact hlj)⟩
          obtain ⟨g3, o3, hg3, _, _, r3⟩ := (HAT.out wr HJ.out.2.2.1).asg.at hp
          have RP := Lib.hid r3
          have a0 : wr.cell? ⟨g3, o3 + j * 3 + 2, none⟩ = some (.int .i64 p.ep) := r3 2 _ rfl
          have HTJ : Hid (e.la.take (j + 1) = e.la.take j ++ [p]) := Lib.hid (by rw [List.take_add_one, hp]; rfl)
          have HPL : Hid (q' ≤ 2000000) := Lib.hid (by
            rw [← HJ.out.2.1, List.length_append]
            have h1 := HPF.out k
            have h2 : (if e.r.cd = 0 then (e.la.take j).filter (fun p => decide (p.ep = i)) else []).length ≤ 1000000 := by
              split
              · have h3 := List.length_filter_le (fun p => decide (p.ep = i)) (e.la.take j)
                have h4 : (e.la.take j).length ≤ e.la.length := List.length_take_le' j e.la
                have := HLL.out
                omega
              · simp
            omega)
          rw [hg3] at x7
          have hji : (0 : Int) ≤ (j : Int) := by omega
          have hjn : (j : Int) < (e.r.an : Int) := by omega
          have hj1 : ¬ (j : Int) < 0 := by omega
          have hj2 : ¬ (e.r.an : Int) ≤ (j : Int) := by omega
          clear hp hg3 r3
          by_cases hcd : e.r.cd = 0
          · have x1' : wr.cell? ⟨rx, 1, none⟩ = some (.int .i64 0) := by rw [← hcd]; exact x1
            have HCD := Lib.hid hcd
            clear x1 hcd
            by_cases hi : p.ep = i
            · have hb : (p.ep == i) = true := by simpa using hi
              have HI := Lib.hid hi
              have HOW : Hid ((wr.alloc (.cells (cellsAs p) 47)).ownsRow w.heap.size 47 3 (.slice a' q' cp') q' (flatR As.row ((stL (L.take k)).an i ++ if e.r.cd = 0 then (e.la.take j).filter (fun p => decide (p.ep = i)) else []))) := Lib.hid (ownsR_below HJ.out.1 ((Below.refl _ _).alloc (Nat.le_refl _) _))
              have HBW : Hid (Below w.heap.size w (wr.alloc (.cells (cellsAs p) 47)) ∧ w.heap.size ≤ wr.heap.size ∧ Blk (wr.alloc (.cells (cellsAs p) 47)) rx 60 (cellsRc e.r)) := Lib.hid ⟨HJ.out.2.2.1.alloc HJ.out.2.2.1.size _, HJ.out.2.2.1.size, HJ.out.2.2.2.alloc _⟩
              have KN : Hid (Blk (wr.alloc (.cells (cellsAs p) 47)) wr.heap.size 47 (cellsAs p)) := Lib.hid (Blk.new _ _ _)
              obtain ⟨i8, hi8, hz8, hs8, hb8⟩ := appAs
              clear hi
              go_wp2_with (first | (refine wpList_load_As rfl 47 _ rfl g3 (o3 + j * 3) rfl p _ RP.out Try.underlying47 rfl infoAs ?_) | (refine wpList_oneAs rfl _ p rfl rfl ?_) | (refine wpList_append_src _ rfl _ _ 45 rfl w.heap.size 47 i8 _ 3 24 Try.underlying45 hi8 hz8 hs8 hb8 rfl (by omega) (.slice a' q' cp') q' _ rfl HOW.out (some ⟨wr.heap.size, 0, none⟩) 1 1 p.row rfl rfl (fun _ => ⟨_, rfl, fun j u hu => by rw [add_plain, Nat.zero_add]; have := KN.out.rangeAs j u hu; rwa [Nat.zero_add] at this⟩) (As.row_one p) (by have := HPL.out; unfold maxLen; omega) (by have := HPL.out; omega) (by have := HBW.out.2.1; simp; omega) ?_; intro v' w4 ho4 hg4 hs4; obtain ⟨a4, c4, rfl, -, -⟩ := ownsR_slice ho4; clear hs4))
              go_roundw
              case rel =>
                refine ⟨j + 1, a4, q' + 1, c4, by omega, by go_num, rfl, Lib.hid ⟨?_, ?_, ?_, ?_⟩⟩
                · rw [if_pos HCD.out] at ho4
                  rw [HTJ.out, if_pos HCD.out, List.filter_append, show List.filter (fun p => decide (p.ep = i)) [p] = [p] by simp [HI.out], ← List.append_assoc, flatR_append, flatR_one]
                  exact ho4
                · have h5 := HJ.out.2.1
                  rw [if_pos HCD.out] at h5
                  rw [HTJ.out, if_pos HCD.out, List.filter_append, show List.filter (fun p => decide (p.ep = i)) [p] = [p] by simp [HI.out], ← List.append_assoc, List.length_append, h5]
                  rfl
                · exact HBW.out.1.grown hg4 (by have := HBW.out.2.1; simp; omega) (fun g hg => (ownsR_blk HOW.out hg).choose_spec.2)
                · refine HBW.out.2.2.grown hg4 (fun he => ?_)
                  obtain ⟨cur, hB, _⟩ := ownsR_blk HOW.out he.symm
                  exact Blk.ne_ HBW.out.2.2 hB (by decide) rfl
              case measure => simp [intOf]; omega
            · have hb : (p.ep == i) = false := by simpa using hi
              have HI := Lib.hid hi
              clear hi
              go_wp2_with (fail)
              go_roundw
              case rel =>
                refine ⟨j + 1, a', q', cp', by omega, by go_num, rfl, Lib.hid ?_⟩
                rw [HTJ.out, List.filter_append, show List.filter (fun p => decide (p.ep = i)) [p] = [] by simp [HI.out], List.append_nil]
                exact HJ.out
              case measure => simp [intOf]; omega
          · have d : (e.r.cd == 0) = false := by simpa using hcd
            have HCD := Lib.hid hcd
            clear hcd
            go_wp2_with (fail)
            go_roundw
            case rel =>
              refine ⟨j + 1, a', q', cp', by omega, by go_num, rfl, Lib.hid ?_⟩
              have h5 := HJ.out
              rw [if_neg HCD.out] at h5 ⊢
              exact h5
            case measure => simp [intOf]; omega
        · have HJ2 : Hid (((stL (L.take (k + 1))).an i).length = q' ∧ wr.ownsRow w.heap.size 47 3 (.slice a' q' cp') q' (flatR As.row ((stL (L.take (k + 1))).an i)) ∧ Below w.heap.size w wr) := Lib.hid (by
            have h5 := HJ.out
            rw [show e.la.take j = e.la from List.take_of_length_le (by rw [HLA.out]; omega)] at h5
            rw [HTK.out]
            exact ⟨h5.2.1, h5.1, h5.2.2.1⟩)
          clear HJ
          have hje : j = e.r.an := by omega
          generalize e.r.an = sn at *
          subst hje
          clear hlj
          have hlj : ¬ j < j := by omega
          go_wp2_with (fail)
          go_roundw
          case rel => exact ⟨k + 1, a', q', cp', by omega, by go_num, rfl, HJ2⟩
          case measure => simp [intOf]; omega
    · obtain rfl : k = n := by omega
      clear hlt
      have hlt : ¬ k < k := by omega
      have hT : L.take k = L := List.take_of_length_le (by rw [HN.out]; exact Nat.le_refl _)
      go_wp2_with (fail)
      go_ret
      have := HA.out
      rw [hT] at this
      obtain ⟨h1, h2, h3⟩ := this
      subst h1
      exact ⟨a, cp, rfl, h2, h3⟩
end Go.Proofs.Ythnhpmeacboljaa
