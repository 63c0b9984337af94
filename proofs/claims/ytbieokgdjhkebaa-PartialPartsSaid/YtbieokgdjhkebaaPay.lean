/- pay: a request is paid within a list of one's own. -/
import Derived.Test.YtbieokgdjhkebaaApply
import Derived.Test.YtbieokgdjhkebaaRefs
import Derived.Deep.CutRange
namespace Go.Proofs.Ytbieokgdjhkebaa
open Go Go.RowKit Go.Deep
set_option linter.unusedVariables false
set_option linter.unusedSimpArgs false
set_option maxRecDepth 100000

theorem run_alloc_val (w : World) : (Instr.alloc 33 true (.tuple #[])).run Try.prog w = .ok (.pointer (some ⟨w.heap.size, 0, none⟩)) (w.alloc (.cells (cellsV val0) 33)) := by
  obtain ⟨i, hi, hz, hs, hby⟩ := val_app
  simp [Instr.alloc, sizeOf, zeroValue, typeInfo, hi, hz, hs, newRow, go_sem, Value.cells]
theorem wp_alloc_val {o : Oper} {a : Act} {w : World} {K : Act → World → Prop} {Q : Exit → Act → World → Prop} (ho : o.op = .alloc 33)
    (h : K (a.put o.dst (.pointer (some ⟨w.heap.size, 0, none⟩))) (w.alloc (.cells (cellsV val0) 33))) : o.wp Try.prog a w K Q := by
  unfold Oper.wp execOp
  simp only [ho, Sem.run_bind, run_alloc_val w, Result.andThen_ok, Sem.run_pure]
  exact h
/-- pay's three boxes. -/
def RC (w W : World) (r : Rq) (c : Nat → Int) : Prop := Blk W w.heap.size 29 (cellsRq r) ∧ Blk W (w.heap.size + 1) 35 (cellsOf c) ∧ Blk W (w.heap.size + 2) 29 (cellsRq rqZ) ∧ Below w.heap.size w W
theorem RC.new (w : World) (r : Rq) (c : Nat → Int) : RC w (((w.alloc (.cells (cellsRq r) 29)).alloc (.cells (cellsOf c) 35)).alloc (.cells (cellsRq rqZ) 29)) r c :=
  ⟨((Blk.new w _ _).alloc _).alloc _, (two_second w _ _ _).alloc _, by
    have := Blk.new ((w.alloc (.cells (cellsRq r) 29)).alloc (.cells (cellsOf c) 35)) 29 (cellsRq rqZ)
    simpa using this, (below_two _ _ _).alloc (by simp <;> omega) _⟩
theorem RC.next {w W W' : World} {r : Rq} {c : Nat → Int} (h : RC w W r c) (hb : Below W.heap.size W W') : RC w W' r c := ⟨h.1.below hb h.1.lt, h.2.1.below hb h.2.1.lt, h.2.2.1.below hb h.2.2.1.lt, h.2.2.2.trans (hb.mono h.2.2.2.size)⟩
set_option maxHeartbeats 800000 in
theorem pay_no (r : Rq) (a : Option Addr) (n cp : Nat) (c : Nat → Int) (w : World) (h : inB r n = false) :
    Calls Try.prog 29 #[.agg (cellsRq r), .slice a n cp, .agg (cellsOf c)] w fun e w' => e = .returned (.agg (cellsRq ⟨r.ix, 0⟩)) ∧ Below w.heap.size w w' := by
  have T := Lib.hid (RC.new w r c)
  have HW := Lib.hid (fun w => within_any r n w)
  have HF := Lib.hid (fun w => of_any r 0 w)
  rw [h] at HW
  clear h
  go_enter Try.func29, Try.ntmps29
  go_upto_region 1 with (fail)
  simp only [rqz_cells]
  generalize ((w.alloc (.cells (cellsRq r) 29)).alloc (.cells (cellsOf c) 35)).alloc (.cells (cellsRq rqZ) 29) = W at *
  go_wp2_with (first | (refine wpList_load_row rfl 29 _ rfl w.heap.size rfl 29 _ (0, 0) _ T.out.1 Try.underlying29 rfl infoRq ?_))
  refine (HW.out _).mono ?_
  rintro e w1 ⟨rfl, b1⟩
  have T1 := Lib.hid (T.out.next b1)
  clear T b1 HW
  go_wp2_with (first | (refine wpList_load_row rfl 29 _ rfl w.heap.size rfl 29 _ (0, 0) _ T1.out.1 Try.underlying29 rfl infoRq ?_))
  refine (HF.out _).mono ?_
  rintro e w2 ⟨rfl, b2⟩
  have T2 := Lib.hid (T1.out.next b2)
  clear T1 b2 HF
  go_wp2_with (first | (refine wpList_store_row rfl _ _ _ rfl (w.heap.size + 2) (cellsRq ⟨r.ix, 0⟩) rfl rfl 29 _ T2.out.2.2.1 infoRq rfl (cellsRq_one _) ?_))
  exact bodyPost_ret (v := .agg (cellsRq ⟨r.ix, 0⟩)) (results_cell_row (fn := Try.f29) rfl _ _ (w.heap.size + 2) 29 (cellsRq ⟨r.ix, 0⟩) (0, 0) _ rfl (setRow_heap _ _ _ _ _ _ T2.out.2.2.1) Try.underlying29 rfl infoRq) rfl ⟨rfl, below_setRow T2.out.2.2.2 (by omega) _⟩
/-- Facts of a row of one's own, seen behind a call. -/
def Row (W : World) (g n cp : Nat) (l : List Val) : Prop := W.ownsRow 0 33 7 (.slice (some ⟨g, 0, none⟩) n cp) n (flat l)
theorem Row.next {W W' : World} {g n cp : Nat} {l : List Val} (h : Row W g n cp l) (hb : Below W.heap.size W W') : Row W' g n cp l := owns_same h (fun i hi => hb.block i (ownsRow_lt h hi))
  where ownsRow_lt {W : World} {g n cp : Nat} {l : List Val} (h : Row W g n cp l) {i : Nat} (hi : (Value.slice (some ⟨g, 0, none⟩) n cp).ownBlock = some i) : i < W.heap.size := (World.ownsRow.lt h i hi).2
theorem Row.lt {W : World} {g n cp : Nat} {l : List Val} (h : Row W g n cp l) : g < W.heap.size := (World.ownsRow.lt h g rfl).2
theorem Row.range {W : World} {g n cp : Nat} {l : List Val} (h : Row W g n cp l) (hn : l.length = n) {i : Nat} {v : Val} (hi : l[i]? = some v) : W.rangeAt g (i * 7) v.row := by
  subst hn
  obtain ⟨b, off, e, r⟩ := (owns_lst (S := fun _ => False) h (fun _ _ h => h)).at hi
  injection e with e
  injection e with e1 e2 _
  subst e1 e2
  rwa [Nat.zero_add] at r
set_option maxHeartbeats 1600000 in
theorem pay_yes (r : Rq) (g n cp i : Nat) (l : List Val) (v : Val) (c : Nat → Int) (w : World) (hO : Row w g n cp l) (hn : l.length = n) (hi : r.ix = (i : Int)) (hl : l[i]? = some v) (hv : FitsV v) (hr : FitsRq r) (hm : 0 ≤ c 5) :
    Calls Try.prog 29 #[.agg (cellsRq r), .slice (some ⟨g, 0, none⟩) n cp, .agg (cellsOf c)] w fun e w' => e = .returned (.agg (cellsRq ⟨r.ix, paidX v r.am (c 5)⟩)) ∧ Row w' g n cp (l.set i (appV v r.am (c 5))) ∧ Kept (fun k => k = g) w w' := by
  have T := Lib.hid (RC.new w r c)
  have hil := (List.getElem?_eq_some_iff.1 hl).1
  have HW := Lib.hid (fun w => within_any r n w)
  rw [show inB r n = true from decide_eq_true (by omega)] at HW
  have HA := Lib.hid (fun w => apply_any v r.am c w hv hm hr.am.1)
  have HF := Lib.hid (fun x w => of_any r x w)
  have HO : Hid (Row w g n cp l) := Lib.hid hO
  have HV := Lib.hid hl
  have HX := Lib.hid hi
  have HN := Lib.hid hn
  have HG : Hid (g < w.heap.size) := Lib.hid hO.lt
  have k1 : ¬ (i : Int) < 0 := by omega
  have k2 : ¬ (n : Int) ≤ (i : Int) := by omega
  have k3 : (i : Int) < (n : Int) := by omega
  obtain ⟨p, hp⟩ : ∃ p, paidX v r.am (c 5) = p := ⟨_, rfl⟩
  obtain ⟨u, hu⟩ : ∃ u, appV v r.am (c 5) = u := ⟨_, rfl⟩
  rw [hp, hu] at HA
  rw [hp, hu]
  clear hO hn hi hl hv hr hm hp hu
  go_enter Try.func29, Try.ntmps29
  go_upto_region 1 with (fail)
  simp only [rqz_cells]
  generalize ((w.alloc (.cells (cellsRq r) 29)).alloc (.cells (cellsOf c) 35)).alloc (.cells (cellsRq rqZ) 29) = W at *
  go_wp2_with (first | (refine wpList_load_row rfl 29 _ rfl w.heap.size rfl 29 _ (0, 0) _ T.out.1 Try.underlying29 rfl infoRq ?_))
  refine (HW.out _).mono ?_
  rintro e w1 ⟨rfl, b1⟩
  have T1 := Lib.hid (T.out.next b1)
  clear T b1 HW
  go_upto_region 3 with (fail)
  have O1 : Hid (Row w1 g n cp l) := Lib.hid (owns_same HO.out (fun k hk => by
    simp only [Value.ownBlock, Option.some.injEq] at hk
    subst hk
    exact T1.out.2.2.2.block _ HG.out))
  have R1 := Lib.hid (O1.out.range HN.out HV.out)
  go_cut [7, 8] from 16 to 28 (fun s7 s8 wx => ∃ b7 : Nat, s7 = .pointer (some ⟨b7, 0, none⟩) ∧ s8 = .int .u64 p ∧ Hid (Blk wx b7 33 (cellsV u) ∧ Below w1.heap.size w1 wx))
  case first =>
    refine wp_region_first (fun w' => Below w1.heap.size w1 w') 14 6 [0, 1, 2, 3, 4, 5, 6, 7] (by kernel_rfl) (by kernel_rfl) (Below.refl _ _).drew ?_
    simp only [List.filterMap_cons, List.filterMap_nil, List.getElem?_toArray, List.getElem?_cons_zero, List.getElem?_cons_succ]
    show wpQuiet _ _ _ _ [_, _, _, _, _, _, _, _] _
    iterate 2 (go_big_quiet_step ((intros; rfl)))
    refine q_cell 3 _ ⟨w.heap.size, 0, none⟩ (.int .i64 i) rfl rfl rfl (fun w h => by simp [go_sem, h]) (fun w' h => (h.cell (p := ⟨w.heap.size, 0, none⟩) T1.out.1.lt).trans ((T1.out.1.cell 0).trans (by rw [← HX.out]; rfl))) ?_
    simp only [Act.put, List.setIfInBounds_toArray, List.set_cons_zero, List.set_cons_succ]
    iterate 1 (go_big_quiet_step ((intros; rfl)))
    refine q_load_val 33 _ g (i * 7) v _ rfl rfl rfl (fun w' h => World.rangeAt.same R1.out (h.block g O1.out.lt)) Try.underlying33 rfl infoV ?_
    simp only [Act.put, List.setIfInBounds_toArray, List.set_cons_zero, List.set_cons_succ]
    iterate 1 (go_big_quiet_step ((intros; rfl)))
    refine q_cell 23 _ ⟨w.heap.size, 1, none⟩ (.int .u64 r.am) rfl rfl rfl (fun w h => by simp [go_sem, h]) (fun w' h => (h.cell (p := ⟨w.heap.size, 1, none⟩) T1.out.1.lt).trans (T1.out.1.cell 1)) ?_
    simp only [Act.put, List.setIfInBounds_toArray, List.set_cons_zero, List.set_cons_succ]
    refine q_load 35 _ (w.heap.size + 1) 35 (cellsOf c) _ rfl rfl rfl (fun w' h => T1.out.2.1.below h T1.out.2.1.lt) Try.underlying35 rfl info24 ?_
    simp only [Act.put, List.setIfInBounds_toArray, List.set_cons_zero, List.set_cons_succ]
    refine wpQuiet_nil ?_
    have D0 : Hid (Below w1.heap.size w1 w1.drew) := Lib.hid (Below.refl _ _).drew
    generalize w1.drew = w0 at *
    refine headF_two (i := 8) (k := 12) (by kernel_rfl) (by omega) (by omega) ?_ ?_
    · refine wpOp_at rfl rfl (wp_call_at rfl #[.agg (cellsV v), .int .u64 r.am, .agg (cellsOf c)] (by kernel_rfl) Try.call14 ((HA.out w0).mono ?_))
      rintro e w3 ⟨rfl, bb⟩
      have D3 : Hid (Below w1.heap.size w1 w3) := Lib.hid (D0.out.trans (bb.mono D0.out.size))
      clear bb
      refine ⟨_, rfl, D3.out, ?_⟩
      simp only [Act.put, List.getElem_toArray, List.getElem_cons_zero, List.getElem_cons_succ, List.setIfInBounds_toArray, List.set_cons_zero, List.set_cons_succ, List.drop_succ_cons, List.drop_zero]
      refine headF_takes (fun w' => Below w1.heap.size w1 w') (m := 5) (f := 2) [9, 10, 11] (fun _ h => h) (by kernel_rfl) D3.out ?_
      simp only [List.filterMap_cons, List.filterMap_nil, List.getElem?_toArray, List.getElem?_cons_zero, List.getElem?_cons_succ]
      show wpQuiet _ _ _ _ [_, _, _] _
      iterate 3 (go_big_quiet_step ((intros; rfl)))
      refine wpQuiet_nil ?_
      refine headF_one (i := 12) (by kernel_rfl) (by omega) ?_
      refine wpOp_at rfl rfl (wp_alloc_val rfl ?_)
      have D4 : Hid (Below w1.heap.size w1 (w3.alloc (.cells (cellsV val0) 33))) := Lib.hid (D3.out.alloc D3.out.size _)
      have R4 : Hid (Blk (w3.alloc (.cells (cellsV val0) 33)) w3.heap.size 33 (cellsV val0)) := Lib.hid (Blk.new _ _ _)
      have G4 : Hid (w1.heap.size ≤ w3.heap.size) := Lib.hid D3.out.size
      refine ⟨D4.out, ?_⟩
      generalize w3.alloc (.cells (cellsV val0) 33) = w4 at *
      simp only [Act.put, List.getElem_toArray, List.getElem_cons_zero, List.getElem_cons_succ, List.setIfInBounds_toArray, List.set_cons_zero, List.set_cons_succ, List.drop_succ_cons, List.drop_zero]
      refine headF_one (i := 13) (by kernel_rfl) (by omega) ?_
      refine wpOp_at rfl rfl (wp_store_row _ _ _ rfl w3.heap.size (cellsV u) rfl rfl 33 _ R4.out infoV rfl (cellsV_one _) ?_)
      have Z : Hid (Blk (w4.setRow w3.heap.size (cellsV u)) w3.heap.size 33 (cellsV u) ∧ Below w1.heap.size w1 (w4.setRow w3.heap.size (cellsV u))) := Lib.hid ⟨setRow_heap _ _ _ _ _ _ R4.out, below_setRow D4.out G4.out _⟩
      refine ⟨Z.out.2, ?_⟩
      generalize w4.setRow w3.heap.size (cellsV u) = w5 at *
      show Region.seqB _ _ _ _ _ = true ∧ _
      refine ⟨by kernel_rfl, ?_⟩
      simp only [Act.put, List.getElem_toArray, List.getElem_cons_zero, List.getElem_cons_succ, List.setIfInBounds_toArray, List.set_cons_zero, List.set_cons_succ, List.drop_succ_cons, List.drop_zero]
      go_wp2
      refine NoPanic.normal ?_
      go_wp2_with fail
      go_meet
      exact ⟨_, rfl, rfl, Z⟩
    · refine wpOp_at rfl rfl (wp_alloc_val rfl ?_)
      have D3 : Hid (Below w1.heap.size w1 (w0.alloc (.cells (cellsV val0) 33))) := Lib.hid (D0.out.alloc D0.out.size _)
      have R3 : Hid (Blk (w0.alloc (.cells (cellsV val0) 33)) w0.heap.size 33 (cellsV val0)) := Lib.hid (Blk.new _ _ _)
      have G3 : Hid (w1.heap.size ≤ w0.heap.size) := Lib.hid D0.out.size
      refine ⟨D3.out, ?_⟩
      generalize w0.alloc (.cells (cellsV val0) 33) = w3 at *
      simp only [Act.put, List.getElem_toArray, List.getElem_cons_zero, List.getElem_cons_succ, List.setIfInBounds_toArray, List.set_cons_zero, List.set_cons_succ, List.drop_succ_cons, List.drop_zero]
      refine headF_one (i := 8) (by kernel_rfl) (by omega) ?_
      refine wpOp_at rfl rfl (wp_call_at rfl #[.agg (cellsV v), .int .u64 r.am, .agg (cellsOf c)] (by kernel_rfl) Try.call14 ((HA.out w3).mono ?_))
      rintro e w4 ⟨rfl, bb⟩
      have D4 : Hid (Below w1.heap.size w1 w4) := Lib.hid (D3.out.trans (bb.mono D3.out.size))
      have R4 : Hid (Blk w4 w0.heap.size 33 (cellsV val0)) := Lib.hid (R3.out.below bb R3.out.lt)
      clear bb
      refine ⟨_, rfl, D4.out, ?_⟩
      simp only [Act.put, List.getElem_toArray, List.getElem_cons_zero, List.getElem_cons_succ, List.setIfInBounds_toArray, List.set_cons_zero, List.set_cons_succ, List.drop_succ_cons, List.drop_zero]
      refine headF_takes (fun w' => Below w1.heap.size w1 w') (m := 4) (f := 1) [9, 10, 11] (fun _ h => h) (by kernel_rfl) D4.out ?_
      simp only [List.filterMap_cons, List.filterMap_nil, List.getElem?_toArray, List.getElem?_cons_zero, List.getElem?_cons_succ]
      show wpQuiet _ _ _ _ [_, _, _] _
      iterate 3 (go_big_quiet_step ((intros; rfl)))
      refine wpQuiet_nil ?_
      refine headF_one (i := 13) (by kernel_rfl) (by omega) ?_
      refine wpOp_at rfl rfl (wp_store_row _ _ _ rfl w0.heap.size (cellsV u) rfl rfl 33 _ R4.out infoV rfl (cellsV_one _) ?_)
      have Z : Hid (Blk (w4.setRow w0.heap.size (cellsV u)) w0.heap.size 33 (cellsV u) ∧ Below w1.heap.size w1 (w4.setRow w0.heap.size (cellsV u))) := Lib.hid ⟨setRow_heap _ _ _ _ _ _ R4.out, below_setRow D4.out G3.out _⟩
      refine ⟨Z.out.2, ?_⟩
      generalize w4.setRow w0.heap.size (cellsV u) = w5 at *
      show Region.seqB _ _ _ _ _ = true ∧ _
      refine ⟨by kernel_rfl, ?_⟩
      simp only [Act.put, List.getElem_toArray, List.getElem_cons_zero, List.getElem_cons_succ, List.setIfInBounds_toArray, List.set_cons_zero, List.set_cons_succ, List.drop_succ_cons, List.drop_zero]
      go_wp2
      refine NoPanic.normal ?_
      go_wp2_with fail
      go_meet
      exact ⟨_, rfl, rfl, Z⟩
  case rest =>
    obtain ⟨b7, rfl, rfl, Z⟩ := hcut
    have T2 := Lib.hid (T1.out.next Z.out.2)
    have O2 : Hid (Row wc g n cp l) := Lib.hid (O1.out.next Z.out.2)
    have F2 : Hid (wc.there g (i * 7) 7 ∧ Row (wc.setCells g (i * 7) (cellsV u).toList) g n cp (l.set i u)) := Lib.hid (by
      have h := O2.out
      unfold Row at h ⊢
      have hn := HN.out
      subst hn
      have := owns_set h HV.out u
      exact ⟨this.2, this.1⟩)
    have K2 : Hid (Blk (wc.setCells g (i * 7) (cellsV u).toList) w.heap.size 29 (cellsRq r) ∧ Blk (wc.setCells g (i * 7) (cellsV u).toList) (w.heap.size + 2) 29 (cellsRq rqZ) ∧ Kept (fun k => k = g) w (wc.setCells g (i * 7) (cellsV u).toList)) := Lib.hid (by
      have k : Kept (fun k => k = g) wc (wc.setCells g (i * 7) (cellsV u).toList) := Kept.setCells _ _ _ (Kept.refl _ _) (.inl rfl)
      have hg := HG.out
      obtain ⟨h1, h2, h3, h4⟩ := T2.out
      exact ⟨h1.kept k (by omega), h3.kept k (by omega), (Kept.of_below h4).trans k (fun _ _ h => h)⟩)
    have x0 : wc.cell? ⟨w.heap.size, 0, none⟩ = some (.int .i64 (i : Int)) := (T2.out.1.cell 0).trans (by rw [← HX.out]; rfl)
    clear T1 O1 R1 HA O2
    go_upto_region 5 with (first | (refine wpList_load_row rfl 33 _ rfl b7 rfl 33 _ (0, 0) _ Z.out.1 Try.underlying33 rfl infoV ?_) | (refine wpList_store_mid rfl 33 _ _ rfl g (i * 7) (cellsV u) rfl rfl F2.out.1 infoV (cellsV_one u) ?_))
    have F3 := Lib.hid F2.out.2
    clear Z F2 T2 x0
    generalize wc.setCells g (i * 7) (cellsV u).toList = w3 at *
    go_wp2_with (first | (refine wpList_load_row rfl 29 _ rfl w.heap.size rfl 29 _ (0, 0) _ K2.out.1 Try.underlying29 rfl infoRq ?_))
    refine (HF.out p _).mono ?_
    rintro e w4 ⟨rfl, b4⟩
    have K4 : Hid (Blk w4 (w.heap.size + 2) 29 (cellsRq rqZ) ∧ Kept (fun k => k = g) w w4 ∧ Row w4 g n cp (l.set i u)) := Lib.hid ⟨K2.out.2.1.below b4 K2.out.2.1.lt, K2.out.2.2.trans (Kept.of_below (S := fun k => k = g) b4) (fun _ _ h => h), F3.out.next b4⟩
    clear K2 F3 b4
    go_wp2_with (first | (refine wpList_store_row rfl _ _ _ rfl (w.heap.size + 2) (cellsRq ⟨r.ix, p⟩) rfl rfl 29 _ K4.out.1 infoRq rfl (cellsRq_one _) ?_))
    have Y : Row (w4.setRow (w.heap.size + 2) (cellsRq ⟨r.ix, p⟩)) g n cp (l.set i u) ∧ Kept (fun k => k = g) w (w4.setRow (w.heap.size + 2) (cellsRq ⟨r.ix, p⟩)) := by
      have hg := HG.out
      refine ⟨owns_same K4.out.2.2 (fun k hk => ?_), K4.out.2.1.setRow (.inr (by omega)) _⟩
      simp only [Value.ownBlock, Option.some.injEq] at hk
      subst hk
      exact setRow_other _ _ _ _ (by omega)
    exact bodyPost_ret (v := .agg (cellsRq ⟨r.ix, p⟩)) (results_cell_row (fn := Try.f29) rfl _ _ (w.heap.size + 2) 29 (cellsRq ⟨r.ix, p⟩) (0, 0) _ rfl (setRow_heap _ _ _ _ _ _ K4.out.1) Try.underlying29 rfl infoRq) rfl ⟨rfl, Y⟩
theorem pay_any (r : Rq) (a : Option Addr) (n cp : Nat) (l : List Val) (c : Nat → Int) (w : World) (hO : w.ownsRow 0 33 7 (.slice a n cp) n (flat l)) (hn : l.length = n) (hf : ∀ v ∈ l, FitsV v) (hr : FitsRq r) (hm : 0 ≤ c 5) :
    Calls Try.prog 29 #[.agg (cellsRq r), .slice a n cp, .agg (cellsOf c)] w fun e w' => e = .returned (.agg (cellsRq ⟨r.ix, payX l r (c 5)⟩)) ∧ w'.ownsRow 0 33 7 (.slice a n cp) n (flat (payL l r (c 5))) ∧ Kept (fun k => (Value.slice a n cp).ownBlock = some k) w w' := by
  by_cases h : inB r l.length = true
  · obtain ⟨i, v, hi, hv⟩ := in_at h
    obtain ⟨_, e1, e2⟩ := pay_at (c 5) hi hv
    have hil := (List.getElem?_eq_some_iff.1 hv).1
    rw [e1, e2]
    obtain ⟨g, rfl⟩ : ∃ g, a = some ⟨g, 0, none⟩ := by
      rcases hO.2 with ⟨_, h0⟩ | ⟨g, cp', cur, h1, _⟩
      · omega
      · injection h1 with h1 _ _
        exact ⟨g, h1⟩
    exact (pay_yes r g n cp i l v c w hO hn hi hv (hf v (List.mem_of_getElem? hv)) hr hm).mono fun e w' ⟨he, ho, k⟩ => ⟨he, ho, k.more (fun i _ e => by subst e; rfl)⟩
  · have e1 : payX l r (c 5) = 0 := by unfold payX; rw [if_neg h]
    have e2 : payL l r (c 5) = l := by unfold payL; rw [if_neg h]
    rw [e1, e2]
    exact (pay_no r a n cp c w (by rw [← hn]; simpa using h)).mono fun e w' ⟨he, hb⟩ => ⟨he, owns_same hO (fun k hk => hb.block k (hO.lt k hk).2), Kept.of_below hb⟩
end Go.Proofs.Ytbieokgdjhkebaa
