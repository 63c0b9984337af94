/- The closure of Step: what stands in the midst of a step; one request is paid. -/
import Derived.Test.YtbieokgdjhkebaaRec
namespace Go.Proofs.Ytbieokgdjhkebaa
open Go Go.RowKit Go.Deep
set_option linter.unusedVariables false
set_option linter.unusedSimpArgs false
set_option maxRecDepth 100000

/-- What stands in the midst of a step: its boxes g9 (the list), g11 (the payments), the configuration's. -/
structure Sp (w wr : World) (g9 g11 : Nat) (a : Option Addr) (n cp : Nat) (v : Value) (L : List Val) (P : List Py) (c : Nat → Int) : Prop where
  cfg : Blk wr w.heap.size 35 (cellsOf c)
  aft : Blk wr g9 22 #[.slice a n cp]
  pay : Blk wr g11 42 #[v]
  own : wr.ownsRow (w.heap.size + 1) 33 7 (.slice a n cp) n (flat L)
  pys : wr.ownsRow (w.heap.size + 1) 51 3 v P.length (flatR Py.row P)
  n9 : w.heap.size < g9
  n11 : w.heap.size < g11
  below : Below w.heap.size w wr
section
variable {w wr w' : World} {g9 g11 : Nat} {a : Option Addr} {n cp : Nat} {v : Value} {L : List Val} {P : List Py} {c : Nat → Int}
theorem Sp.next (h : Sp w wr g9 g11 a n cp v L P c) (hb : Below wr.heap.size wr w') : Sp w w' g9 g11 a n cp v L P c :=
  ⟨h.cfg.below hb h.cfg.lt, h.aft.below hb h.aft.lt, h.pay.below hb h.pay.lt, ownsR_below h.own hb, ownsR_below h.pys hb, h.n9, h.n11, h.below.trans (hb.mono h.below.size)⟩
/-- No block of the row of validators is one of another type. -/
theorem Sp.not_row (h : Sp w wr g9 g11 a n cp v L P c) {b t : Nat} {cs : Array Value} (hb : Blk wr b t cs) (ht : t ≠ 33) : ¬ (Value.slice a n cp).ownBlock = some b := fun e => by
  obtain ⟨cur, h1, _⟩ := ownsR_blk h.own e
  exact Blk.ne_ hb h1 ht rfl
theorem Sp.not_pys (h : Sp w wr g9 g11 a n cp v L P c) {b t : Nat} {cs : Array Value} (hb : Blk wr b t cs) (ht : t ≠ 51) : ¬ v.ownBlock = some b := fun e => by
  obtain ⟨cur, h1, _⟩ := ownsR_blk h.pys e
  exact Blk.ne_ hb h1 ht rfl
theorem kept_below {S : Nat → Prop} {B : Nat} (h : Below B w wr) (k : Kept S wr w') (hS : ∀ i, S i → B ≤ i) (hB : B ≤ wr.heap.size) : Below B w w' := Kept.below h k hS hB
/-- The list has been changed in place. -/
theorem Sp.turned (h : Sp w wr g9 g11 a n cp v L P c) {L' : List Val} (ho : w'.ownsRow 0 33 7 (.slice a n cp) n (flat L')) (k : Kept (fun i => (Value.slice a n cp).ownBlock = some i) wr w') : Sp w w' g9 g11 a n cp v L' P c where
  cfg := h.cfg.kept k (h.not_row h.cfg (by decide))
  aft := h.aft.kept k (h.not_row h.aft (by decide))
  pay := h.pay.kept k (h.not_row h.pay (by decide))
  own := ownsR_up ho fun i hi => by
    obtain ⟨_, _, h1⟩ := ownsR_blk h.own hi
    exact h1
  pys := ownsR_kept h.pys k fun i hi => by
    obtain ⟨cur, h1, _⟩ := ownsR_blk h.pys hi
    exact h.not_row h1 (by decide)
  n9 := h.n9
  n11 := h.n11
  below := Kept.below h.below k (fun i hi => by
    obtain ⟨_, _, h1⟩ := ownsR_blk h.own hi
    omega) h.below.size
/-- The payments have grown, and the box is still the elder one's. -/
theorem Sp.grown (h : Sp w wr g9 g11 a n cp v L P c) {v' : Value} {P' : List Py} (ho : w'.ownsRow (w.heap.size + 1) 51 3 v' P'.length (flatR Py.row P')) (k : Kept (fun i => v.ownBlock = some i) wr w') :
    Sp w (w'.setCell ⟨g11, 0, none⟩ v') g9 g11 a n cp v' L P' c ∧ Blk w' g11 42 #[v] := by
  have hp := h.pay.kept k (h.not_pys h.pay (by decide))
  have hc := h.cfg.kept k (h.not_pys h.cfg (by decide))
  have ha := h.aft.kept k (h.not_pys h.aft (by decide))
  have hr : w'.ownsRow (w.heap.size + 1) 33 7 (.slice a n cp) n (flat L) := ownsR_kept h.own k fun i hi => by
    obtain ⟨cur, h1, _⟩ := ownsR_blk h.own hi
    exact h.not_pys h1 (by decide)
  have hb : Below w.heap.size w w' := Kept.below h.below k (fun i hi => by
    obtain ⟨_, _, h1⟩ := ownsR_blk h.pys hi
    omega) h.below.size
  refine ⟨⟨hc.far (Blk.ne_ hc hp (by decide)) _, ha.far (Blk.ne_ ha hp (by decide)) _, hp.set_ 0 v', ownsR_same hr (fun i hi => ?_), ownsR_same ho (fun i hi => ?_), h.n9, h.n11, hb.setCell (Nat.le_of_lt h.n11) _⟩, hp⟩
  · obtain ⟨cur, h1, _⟩ := ownsR_blk hr hi
    exact Below.heap_setCell w' _ _ i (Blk.ne_ h1 hp (by decide))
  · obtain ⟨cur, h1, _⟩ := ownsR_blk ho hi
    exact Below.heap_setCell w' _ _ i (Blk.ne_ h1 hp (by decide))
end
set_option maxHeartbeats 1600000 in
theorem collect_any (w wr : World) (g9 g11 : Nat) (a : Option Addr) (n cp : Nat) (v : Value) (L : List Val) (P : List Py) (c : Nat → Int) (r : Rq) (h : Sp w wr g9 g11 a n cp v L P c) (hn : L.length = n) (hf : ∀ v ∈ L, FitsV v) (hr : FitsRq r) (hm : 0 ≤ c 5) (hP : P.length ≤ 4096) :
    Calls Try.prog 27 #[.agg (cellsRq r), .pointer (some ⟨g11, 0, none⟩), .pointer (some ⟨g9, 0, none⟩), .pointer (some ⟨w.heap.size, 0, none⟩)] wr fun e w' => e = .returned (.tuple #[]) ∧ ∃ v', Sp w w' g9 g11 a n cp v' (payL L r (c 5)) (P ++ recP r.ix (payX L r (c 5))) c := by
  have H0 := Lib.hid (h.next ((Below.refl _ wr).alloc (Nat.le_refl _) (.cells (cellsRq r) 29)))
  have HR : Hid (Blk (wr.alloc (.cells (cellsRq r) 29)) wr.heap.size 29 (cellsRq r)) := Lib.hid (Blk.new _ _ _)
  have HP := Lib.hid (fun (W : World) (ho : W.ownsRow 0 33 7 (.slice a n cp) n (flat L)) => pay_any r a n cp L c W ho hn hf hr hm)
  have HPL := Lib.hid hP
  obtain ⟨x, hx⟩ : ∃ x, payX L r (c 5) = x := ⟨_, rfl⟩
  obtain ⟨L', hL'⟩ : ∃ L', payL L r (c 5) = L' := ⟨_, rfl⟩
  rw [hx, hL'] at HP
  rw [hx, hL']
  clear h hn hf hr hm hP hx hL'
  go_enter Try.func27, Try.ntmps27
  go_upto_region 1 with (fail)
  generalize wr.alloc (.cells (cellsRq r) 29) = W at *
  generalize wr.heap.size = rb at *
  refine wp_region_first (fun w' => Blk w' g11 42 #[v] ∧ Blk w' rb 29 (cellsRq r) ∧ Blk w' g9 22 #[.slice a n cp] ∧ Blk w' w.heap.size 35 (cellsOf c)) 7 3 [0, 1, 2, 3] (by kernel_rfl) (by kernel_rfl) ⟨H0.out.pay, HR.out, H0.out.aft, H0.out.cfg⟩ ?_
  simp only [List.filterMap_cons, List.filterMap_nil, List.getElem?_toArray, List.getElem?_cons_zero, List.getElem?_cons_succ]
  show wpQuiet _ _ _ _ [_, _, _, _] _
  refine q_cell 42 _ ⟨g11, 0, none⟩ v rfl rfl rfl (fun w h => by simp [go_sem, h]) (fun w' h => h.1.cell 0) ?_
  simp only [Act.put, List.setIfInBounds_toArray, List.set_cons_zero, List.set_cons_succ]
  refine q_load 29 _ rb 29 (cellsRq r) _ rfl rfl rfl (fun w' h => h.2.1) Try.underlying29 rfl infoRq ?_
  simp only [Act.put, List.setIfInBounds_toArray, List.set_cons_zero, List.set_cons_succ]
  refine q_cell 22 _ ⟨g9, 0, none⟩ (.slice a n cp) rfl rfl rfl (fun w h => by simp [go_sem, h]) (fun w' h => h.2.2.1.cell 0) ?_
  simp only [Act.put, List.setIfInBounds_toArray, List.set_cons_zero, List.set_cons_succ]
  refine q_load 35 _ w.heap.size 35 (cellsOf c) _ rfl rfl rfl (fun w' h => h.2.2.2) Try.underlying35 rfl info24 ?_
  simp only [Act.put, List.setIfInBounds_toArray, List.set_cons_zero, List.set_cons_succ]
  refine wpQuiet_nil ?_
  have H1 := Lib.hid (H0.out.next (Below.refl _ W).drew)
  have R1 : Hid (Blk W.drew rb 29 (cellsRq r)) := Lib.hid HR.out
  clear H0 HR
  generalize W.drew = w1 at *
  refine headF_one (i := 4) (by kernel_rfl) (by omega) ?_
  refine wpOp_at rfl rfl (wp_call_at rfl #[.agg (cellsRq r), .slice a n cp, .agg (cellsOf c)] (by kernel_rfl) Try.call29 ((HP.out w1 (ownsR_base H1.out.own (Nat.zero_le _))).mono ?_))
  rintro e w2 ⟨rfl, ho, k⟩
  have H2 := Lib.hid (H1.out.turned ho k)
  have R2 : Hid (Blk w2 rb 29 (cellsRq r)) := Lib.hid (R1.out.kept k (H1.out.not_row R1.out (by decide)))
  clear ho k H1 R1 HP
  refine ⟨_, rfl, ⟨H2.out.pay, R2.out, H2.out.aft, H2.out.cfg⟩, ?_⟩
  simp only [Act.put, List.getElem_toArray, List.getElem_cons_zero, List.getElem_cons_succ, List.setIfInBounds_toArray, List.set_cons_zero, List.set_cons_succ, List.drop_succ_cons, List.drop_zero]
  refine headF_one (i := 5) (by kernel_rfl) (by omega) ?_
  refine wpOp_at rfl rfl (wp_oneRq _ ⟨r.ix, x⟩ rfl rfl ?_)
  have H3 := Lib.hid (H2.out.next ((Below.refl _ w2).alloc (Nat.le_refl _) (.cells (cellsRq ⟨r.ix, x⟩) 29)))
  have R3 : Hid (Blk (w2.alloc (.cells (cellsRq ⟨r.ix, x⟩) 29)) rb 29 (cellsRq r)) := Lib.hid (R2.out.alloc _)
  have B3 : Hid (Blk (w2.alloc (.cells (cellsRq ⟨r.ix, x⟩) 29)) w2.heap.size 29 (cellsRq ⟨r.ix, x⟩)) := Lib.hid (Blk.new _ _ _)
  clear H2 R2
  generalize w2.alloc (.cells (cellsRq ⟨r.ix, x⟩) 29) = w3 at *
  generalize w2.heap.size = b3 at *
  refine ⟨⟨H3.out.pay, R3.out, H3.out.aft, H3.out.cfg⟩, ?_⟩
  simp only [Act.put, List.getElem_toArray, List.getElem_cons_zero, List.getElem_cons_succ, List.setIfInBounds_toArray, List.set_cons_zero, List.set_cons_succ, List.drop_succ_cons, List.drop_zero]
  refine headF_one (i := 6) (by kernel_rfl) (by omega) ?_
  refine wpOp_at rfl rfl (wp_call_at rfl #[v, .slice (some ⟨b3, 0, none⟩) 1 1] (by kernel_rfl) Try.call28 ((record_any (w.heap.size + 1) b3 P.length v P ⟨r.ix, x⟩ w3 H3.out.pys rfl (by have := H3.out.cfg.lt; omega) B3.out HPL.out).mono ?_))
  rintro e w4 ⟨v', rfl, ho, k⟩
  obtain ⟨a4, cp4, rfl, -, -⟩ := ownsR_slice ho
  have Z := Lib.hid (H3.out.grown ho k)
  have S4 : Hid (Blk w4 rb 29 (cellsRq r) ∧ Blk w4 g9 22 #[.slice a n cp] ∧ Blk w4 w.heap.size 35 (cellsOf c)) := Lib.hid ⟨R3.out.kept k (H3.out.not_pys R3.out (by decide)), H3.out.aft.kept k (H3.out.not_pys H3.out.aft (by decide)), H3.out.cfg.kept k (H3.out.not_pys H3.out.cfg (by decide))⟩
  clear ho k H3 R3 B3
  refine ⟨_, rfl, ⟨Z.out.2, S4.out⟩, ?_⟩
  show Region.seqB _ _ _ _ _ = true ∧ _
  refine ⟨by kernel_rfl, ?_⟩
  simp only [Act.put, List.getElem_toArray, List.getElem_cons_zero, List.getElem_cons_succ, List.setIfInBounds_toArray, List.set_cons_zero, List.set_cons_succ, List.drop_succ_cons, List.drop_zero]
  have z1 : w4.cell? ⟨g11, 0, none⟩ = some v := Z.out.2.cell 0
  have z2 : w4.frozen? ⟨g11, 0, none⟩ = false := Z.out.2.frozen 0
  go_wp2
  refine NoPanic.normal ?_
  go_wp2_with fail
  go_end0
  have Y := Z.out.1
  rw [List.length_append] at Y
  exact ⟨rfl, _, Y⟩
end Go.Proofs.Ytbieokgdjhkebaa
