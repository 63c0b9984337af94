/- For all pairs, Payments and Assigned answer the lists of the reference. -/
import Derived.Test.YthnhpmeacboljaaLaw
namespace Go.Proofs.Ythnhpmeacboljaa
open Go Go.RowKit Go.Deep
set_option linter.unusedVariables false
set_option linter.unusedSimpArgs false
set_option maxRecDepth 100000

theorem rowpost_lst {α : Type} {row : α → List Value} {k : Nat} {e : TypeId} {w w' : World} {l : List α} {r : Ending} (hk : ∀ v, (row v).length = k) (h : RowPost row k e w l r w') : ∃ a cp, r = .returned (.slice a l.length cp) ∧ LstR row k w' (fun _ => False) a l ∧ Below w.heap.size w w' := by
  obtain ⟨a, cp, h1, h2, h3⟩ := h
  obtain ⟨a', c', e1, -, -, l1⟩ := ownsR_lst (S := fun _ => False) hk h2 rfl (fun _ _ h => h)
  injection e1 with e1 _ e1b
  exact ⟨a, cp, h1, by rw [e1]; exact l1, h3⟩
set_option maxHeartbeats 6400000 in
theorem walk_HistoryLists (a0 : Option Addr) (len0 cap0 : Nat) (a1 a2 : Int) (w : World) (w0 : IsPqs w a0 len0 cap0) (w1 : (Lit.int .i64 a1).wf = true) (w2 : (Lit.int .i64 a2).wf = true) :
    Calls Try.prog 4 #[.slice a0 len0 cap0, .int .i64 a1, .int .i64 a2] w fun e w' => e = .returned (.bool true) ∧ Below w.heap.size w w' := by
  obtain ⟨L, hl, -, -, hp⟩ := pairs_of w0
  have HB := Lib.hid (build_law a0 len0 cap0 L w hp hl)
  have HSM := Lib.hid (small_of hp)
  have HL := Lib.hid hl
  have HI := Lib.hid (And.intro w1 w2)
  have HV := Lib.hid alive_any
  clear w0 hp hl w1 w2
  go_enter Try.func4, Try.ntmps4
  go_wp2_with (fail)
  refine HB.out.mono ?_
  clear HB
  rintro e x1 (⟨hn, hf, b, rb, rfl, hb⟩ | ⟨rfl, hb⟩)
  · have H1 := Lib.hid hb.two
    have HN : Hid (L.length ≤ 60) := Lib.hid (by rw [HL.out]; exact hn)
    have HS := Lib.hid (HSM.out hf)
    have HPY : Hid (∀ k i, ((stL (L.take k)).py i).length ≤ 3600) := Lib.hid (fun k i => by
      have h1 := py_small (L := L.take k) (fun x hx => (HS.out x (List.mem_of_mem_take hx)).2) i
      have h2 : (L.take k).length ≤ L.length := by rw [List.length_take]; exact Nat.min_le_right _ _
      have := HN.out
      omega)
    have HAN : Hid (∀ k i, ((stL (L.take k)).an i).length ≤ 3600) := Lib.hid (fun k i => by
      have h1 := an_small (L := L.take k) (fun x hx => (HS.out x (List.mem_of_mem_take hx)).1) i
      have h2 : (L.take k).length ≤ L.length := by rw [List.length_take]; exact Nat.min_le_right _ _
      have := HN.out
      omega)
    have HTL : Hid (L.take L.length = L) := Lib.hid (List.take_of_length_le (Nat.le_refl _))
    have HPL : Hid (((stL L).py a1).length ≤ 3600 ∧ ((stL L).an a2).length ≤ 3600) := Lib.hid (by
      have h1 := HPY.out L.length a1
      have h2 := HAN.out L.length a2
      rw [HTL.out] at h1 h2
      exact ⟨h1, h2⟩)
    clear hb hn hf HSM
    go_wp2_with (fail)
    refine (HV.out x1).mono ?_
    rintro e x2 ⟨rfl, hb⟩
    have H2 := Lib.hid (H1.out.below hb)
    clear hb H1
    clear x1
    go_wp2_with (fail)
    obtain ⟨T, hT⟩ := H2.out.lg
    refine (payments_any b T _ _ a1 x2 hT HI.out.1 (by have := HPL.out.1; omega)).mono ?_
    intro e x3 hr
    obtain ⟨p1, c1, rfl, hq, hb⟩ := rowpost_lst Pm.row_len hr
    have L1 := Lib.hid hq
    have H3 := Lib.hid (H2.out.below hb)
    clear hr hq hb H2 hT T
    clear x2
    go_wp2_with (fail)
    refine (refpayments_any rb L a1 x3 H3.out.rl (by have := HN.out; omega) (by have := HPL.out.1; omega) (fun k => by have := HPY.out k a1; omega) (fun e he => by have := (HS.out e he).2; omega)).mono ?_
    intro e x4 hr
    obtain ⟨p2, c2, rfl, hq, hb⟩ := rowpost_lst Pm.row_len hr
    have L2 := Lib.hid hq
    have L1' := Lib.hid (L1.out.below hb)
    have H4 := Lib.hid (H3.out.below hb)
    clear hr hq hb H3 L1
    clear x3
    go_wp2_with (fail)
    refine (eqPay_any p1 p2 _ _ c1 c2 _ _ x4 (fun _ => False) (fun _ => False) L1'.out L2.out rfl rfl (by have := HPL.out.1; omega) (by have := HPL.out.1; omega)).mono ?_
    rintro e x5 ⟨rfl, hb⟩
    have hd : decide ((stL L).py a1 = (stL L).py a1) = true := by simp
    rw [hd]
    have H5 := Lib.hid (H4.out.below hb)
    clear hb hd H4 L1' L2
    clear x4
    go_wp2_with (fail)
    obtain ⟨T, hT⟩ := H5.out.lg
    refine (assigned_any b T _ _ a2 x5 hT HI.out.2 (by have := HPL.out.2; omega)).mono ?_
    intro e x6 hr
    obtain ⟨p3, c3, rfl, hq, hb⟩ := rowpost_lst As.row_len hr
    have L1 := Lib.hid hq
    have H6 := Lib.hid (H5.out.below hb)
    clear hr hq hb H5 hT T
    clear x5
    go_wp2_with (fail)
    refine (refassigned_any rb L a2 x6 H6.out.rl (by have := HN.out; omega) (by have := HPL.out.2; omega) (fun k => by have := HAN.out k a2; omega) (fun e he => by have := (HS.out e he).1; omega)).mono ?_
    intro e x7 hr
    obtain ⟨p4, c4, rfl, hq, hb⟩ := rowpost_lst As.row_len hr
    have L2 := Lib.hid hq
    have L1' := Lib.hid (L1.out.below hb)
    have H7 := Lib.hid (H6.out.below hb)
    clear hr hq hb H6 L1
    clear x6
    go_wp2_with (fail)
    refine (eqAsg_any p3 p4 _ _ c3 c4 _ _ x7 (fun _ => False) (fun _ => False) L1'.out L2.out rfl rfl (by have := HPL.out.2; omega) (by have := HPL.out.2; omega)).mono ?_
    rintro e x8 ⟨rfl, hb⟩
    have hd : decide ((stL L).an a2 = (stL L).an a2) = true := by simp
    rw [hd]
    have H8 := Lib.hid (H7.out.below hb)
    clear hb hd H7
    clear L1' L2
    clear x7
    go_wp2_with (fail)
    go_ret
    exact ⟨rfl, H8.out.bel⟩
  · have B1 := Lib.hid hb
    clear hb
    go_wp2_with (fail)
    refine (HV.out x1).mono ?_
    rintro e x2 ⟨rfl, hb⟩
    have B2 := Lib.hid (B1.out.trans (hb.mono B1.out.size))
    clear hb B1
    go_wp2_with (fail)
    go_ret
    exact ⟨rfl, B2.out⟩
end Go.Proofs.Ythnhpmeacboljaa
