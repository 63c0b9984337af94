/- exit, Exit and Len. -/
import Derived.Test.YthnhpmeacboljaaNewL
namespace Go.Proofs.Ythnhpmeacboljaa
open Go Go.RowKit Go.Deep
set_option linter.unusedVariables false
set_option linter.unusedSimpArgs false
set_option maxRecDepth 100000

theorem wp_store_int {P : Program} {o : Oper} {a : Act} {w : World} {K : Act → World → Prop} {Q : Exit → Act → World → Prop} (ty : TypeId) (x y : Operand) (ho : o.op = .store ty x y) (b i : Nat) (k : IntKind) (u : Int) (t : TypeId) (cs : Array Value) (hx : a.eval x = .pointer (some ⟨b, i, none⟩)) (hy : a.eval y = .int k u) (hz : (P.info? ty).map (·.size) = some 1) (hB : Blk w b t cs) (hi : i < cs.size)
    (h : K (a.put o.dst undef) (w.setCell ⟨b, i, none⟩ (.int k u))) : o.wp P a w K Q := by
  obtain ⟨z, hc⟩ : ∃ z, w.cell? ⟨b, i, none⟩ = some z := ⟨cs[i], by rw [hB.cell i, Array.getElem?_eq_getElem hi]⟩
  have hf := hB.frozen i
  have hs : (storeVar ty ⟨b, i, none⟩ (.int k u)).run P w = .ok () (w.setCell ⟨b, i, none⟩ (.int k u)) := by
    cases hq : P.info? ty with
    | none => simp [hq] at hz
    | some j =>
      have hj : j.size = 1 := by simpa [hq] using hz
      have := run_store P w ⟨b, i, none⟩ (.int k u) .plain rfl
      rw [hc] at this
      simp only [hf] at this
      simp [storeVar, sizeOf, typeInfo, hq, Value.cells, hj, storeCells, go_sem, hc, hf]
  unfold Oper.wp execOp
  simp only [ho, hx, hy, Instr.storeAt, Instr.sureAddr, Sem.run_bind, Sem.run_pure, Result.andThen_ok, hs]
  exact h
theorem below_row {w w' : World} {rb t : Nat} {cs : Array Value} (hb : Below rb w w') (hB : Blk w' rb t cs) (cs' : Array Value) : Below rb w (w'.setRow rb cs') :=
  Kept.below (S := fun j => j = rb) hb (Kept.setRow (S := fun j => j = rb) (Kept.refl _ _) (.inl rfl) _) (fun j hj => by omega) (Nat.le_of_lt hB.lt)
theorem len_any (b : Nat) (T : Nat → Prop) (s : St) (n : Int) (w : World) (h : LgAt w b T s n) : Calls Try.prog 11 #[.pointer (some ⟨b, 0, none⟩)] w fun e w' => e = .returned (.int .i64 n) ∧ w = w' := by
  obtain ⟨v, hv⟩ := h
  have x5 : w.cell? ⟨b, 5, none⟩ = some (.int .i64 n) := hv.cell 5
  clear hv
  go_enter Try.func11, Try.ntmps11
  go_wp2_with (fail)
  go_ret
  exact ⟨rfl, rfl⟩
set_option maxHeartbeats 3200000 in
theorem exit_go (b : Nat) (T : Nat → Prop) (s : St) (n i : Int) (w : World) (h : LgAt w b T s n) (hi : (Lit.int .i64 i).wf = true) :
    Calls Try.prog 27 #[.pointer (some ⟨b, 0, none⟩), .int .i64 i] w fun e w' => e = .returned (.tuple #[.agg (cellsXv ((exitV s i).getD xvZ)), .bool (exitV s i).isSome]) ∧ Below w.heap.size w w' := by
  obtain ⟨v, hv⟩ := h
  have HI := Lib.hid hi
  have HV0 := Lib.hid hv
  have hb1 : Below w.heap.size w (w.alloc (.cells #[.int .i64 0, .int .i64 0, .int .i64 0, .int .i64 0, .int .i64 0, .int .i64 0, .int .u64 0] 30)) := (Below.refl _ _).alloc (Nat.le_refl _) _
  have HB1 := Lib.hid hb1
  have HV1 := Lib.hid (hv.below hb1)
  have KR1 : Hid (Blk (w.alloc (.cells #[.int .i64 0, .int .i64 0, .int .i64 0, .int .i64 0, .int .i64 0, .int .i64 0, .int .u64 0] 30)) w.heap.size 30 (cellsXv xvZ)) := Lib.hid (Blk.new _ _ _)
  clear hv hi hb1
  have x0 : (w.alloc (.cells #[.int .i64 0, .int .i64 0, .int .i64 0, .int .i64 0, .int .i64 0, .int .i64 0, .int .u64 0] 30)).cell? ⟨b, 0, none⟩ = some (.map (some v.m1)) := HV1.out.cell 0
  have y0 : w.cell? ⟨b, 0, none⟩ = some (.map (some v.m1)) := HV0.out.cell 0
  obtain ⟨ce, rs, hlook, hex⟩ : ∃ (ce : Xv) (rs : Bool), lookV true (.agg (cellsXv xvZ)) ((s.ex i).map exV) = .tuple #[.agg (cellsXv ce), .bool rs] ∧ ((rs = false ∧ ce = xvZ ∧ exitV s i = none) ∨ (rs = true ∧ ∃ e, s.ex i = some e ∧ ce = ⟨e.cl, e.rq, e.dl, 0, 0, 0, 0⟩)) := by
    cases he : s.ex i with
    | none => exact ⟨xvZ, false, rfl, .inl ⟨rfl, rfl, by unfold exitV; rw [he]; rfl⟩⟩
    | some u => exact ⟨_, true, rfl, .inr ⟨rfl, u, rfl, rfl⟩⟩
  have HL := Lib.hid hlook
  have HX := Lib.hid hex
  clear hlook hex
  go_enter Try.func27, Try.ntmps27
  go_upto_region 1 with (fail)
  generalize w.alloc (.cells #[.int .i64 0, .int .i64 0, .int .i64 0, .int .i64 0, .int .i64 0, .int .i64 0, .int .u64 0] 30) = W at *
  generalize hrb : w.heap.size = rb at *
  have HRW := Lib.hid hrb
  clear hrb
  have HM := Lib.hid HV1.out.ex
  clear y0 HV0
  go_upto_region 2 with (first | (refine wpList_lookF rfl true _ _ rfl HM.out Try.underlying3 Try.underlying72 _ (zeroXv _) i rfl rfl HI.out _ HL.out ?_) | (refine wpList_store_row rfl _ _ _ rfl W.heap.size (cellsXv ce) rfl rfl 30 _ (heap_alloc_new W _) infoXv rfl (cellsXv_one _) ?_; rw [World.setRow_alloc_new]))
  have HV2 := Lib.hid (HV1.out.below (w' := W.alloc (.cells (cellsXv ce) 30)) ((Below.refl _ _).alloc (Nat.le_refl _) _))
  have KE2 : Hid (Blk (W.alloc (.cells (cellsXv ce) 30)) W.heap.size 30 (cellsXv ce)) := Lib.hid (Blk.new _ _ _)
  have KR2 := Lib.hid (KR1.out.alloc (.cells (cellsXv ce) 30))
  have HB2 := Lib.hid (HB1.out.alloc (Nat.le_of_lt KR1.out.lt) (.cells (cellsXv ce) 30))
  have HRE : Hid (rb ≠ W.heap.size) := Lib.hid (by have := KR1.out.lt; omega)
  have HRL : Hid (rb < W.heap.size) := Lib.hid KR1.out.lt
  have HNE : Hid (∀ j, T j → ¬ j = W.heap.size) := Lib.hid (fun j hj => by have := HV1.out.lt j hj; omega)
  clear HV1 x0 KR1 HB1 HM HL
  generalize W.alloc (.cells (cellsXv ce) 30) = W2 at *
  generalize W.heap.size = eb at *
  clear W
  rcases HX.out with ⟨rfl, rfl, hx⟩ | ⟨rfl, e, hse, hce⟩
  · have HE := Lib.hid hx
    clear HX hx
    go_wp2_with (first | (refine wpList_build_Xv rfl 30 _ rfl xvZ (by kernel_rfl) ?_) | (refine wpList_store_row rfl _ _ _ rfl rb (cellsXv xvZ) rfl rfl 30 _ KR2.out infoXv rfl (cellsXv_one _) ?_))
    refine bodyPost_ret (v := .tuple #[.agg (cellsXv xvZ), .bool false]) (results_cell_row2 (fn := Try.f27) rfl _ _ rb 30 (cellsXv xvZ) (0, 0) _ rfl (KR2.out.setRow (cellsXv xvZ)) Try.underlying30 rfl infoXv) rfl ⟨?_, ?_⟩
    · rw [HE.out]; rfl
    · rw [HRW.out]; exact below_row HB2.out KR2.out _
  · have HE : Hid (exitV s i = some (xvOf e (s.ag i) (s.sl i) (s.pd i))) := Lib.hid (by unfold exitV; rw [hse]; rfl)
    subst hce
    clear HX hse
    have z2 : W2.cell? ⟨b, 2, none⟩ = some (.map (some v.m2)) := HV2.out.cell 2
    go_wp2_with (fail)
    refine (epoch_any v.m2 s.ag i W2 HV2.out.ag HI.out).mono ?_
    rintro r w' ⟨rfl, rfl⟩
    have c3 : W2.cell? ⟨eb, 3, none⟩ = some (.int .i64 0) := KE2.out.cell 3
    have f3 : W2.frozen? ⟨eb, 3, none⟩ = false := KE2.out.frozen 3
    have HG1 : Hid (∃ g, (s.ag i).getD (-1) = g) := Lib.hid ⟨_, rfl⟩
    obtain ⟨g, hg⟩ := HG1.out
    rw [hg]
    have HG := Lib.hid hg
    clear hg HG1
    have HV3 : Hid (LgM (W2.setCell ⟨eb, 3, none⟩ (.int .i64 g)) b T v s n) := Lib.hid (HV2.out.kept (R := fun j => j = eb) (Kept.setCell (S := fun j => j = eb) (Kept.refl _ _) (p := ⟨eb, 3, none⟩) (.inl rfl) _) (fun j hj => HNE.out j hj))
    have KE3 : Hid (Blk (W2.setCell ⟨eb, 3, none⟩ (.int .i64 g)) eb 30 (cellsXv ⟨e.cl, e.rq, e.dl, g, 0, 0, 0⟩)) := Lib.hid (KE2.out.set_ 3 (.int .i64 g))
    have KR3 : Hid (Blk (W2.setCell ⟨eb, 3, none⟩ (.int .i64 g)) rb 30 (cellsXv xvZ)) := Lib.hid (KR2.out.far (p := ⟨eb, 3, none⟩) HRE.out _)
    have HB3 : Hid (Below rb w (W2.setCell ⟨eb, 3, none⟩ (.int .i64 g))) := Lib.hid (Kept.below (S := fun j => j = eb) HB2.out (Kept.setCell (S := fun j => j = eb) (Kept.refl _ _) (p := ⟨eb, 3, none⟩) (.inl rfl) _) (fun j hj => by have := HRL.out; omega) (by have := KR2.out.lt; omega))
    clear HV2 KE2 KR2 HB2
    go_upto_region 5 with (fail)
    generalize W2.setCell ⟨eb, 3, none⟩ (.int .i64 g) = W3 at *
    clear z2 c3 f3
    clear W2
    have z3 : W3.cell? ⟨b, 3, none⟩ = some (.map (some v.m3)) := HV3.out.cell 3
    go_wp2_with (fail)
    refine (epoch_any v.m3 s.sl i W3 HV3.out.sl HI.out).mono ?_
    rintro r w' ⟨rfl, rfl⟩
    have c4 : W3.cell? ⟨eb, 4, none⟩ = some (.int .i64 0) := KE3.out.cell 4
    have f4 : W3.frozen? ⟨eb, 4, none⟩ = false := KE3.out.frozen 4
    obtain ⟨sl, hsl⟩ : ∃ sl, (s.sl i).getD (-1) = sl := ⟨_, rfl⟩
    rw [hsl]
    have HSL := Lib.hid hsl
    clear hsl
    have HV4 : Hid (LgM (W3.setCell ⟨eb, 4, none⟩ (.int .i64 sl)) b T v s n) := Lib.hid (HV3.out.kept (R := fun j => j = eb) (Kept.setCell (S := fun j => j = eb) (Kept.refl _ _) (p := ⟨eb, 4, none⟩) (.inl rfl) _) (fun j hj => HNE.out j hj))
    have KE4 : Hid (Blk (W3.setCell ⟨eb, 4, none⟩ (.int .i64 sl)) eb 30 (cellsXv ⟨e.cl, e.rq, e.dl, g, sl, 0, 0⟩)) := Lib.hid (KE3.out.set_ 4 (.int .i64 sl))
    have KR4 : Hid (Blk (W3.setCell ⟨eb, 4, none⟩ (.int .i64 sl)) rb 30 (cellsXv xvZ)) := Lib.hid (KR3.out.far (p := ⟨eb, 4, none⟩) HRE.out _)
    have HB4 : Hid (Below rb w (W3.setCell ⟨eb, 4, none⟩ (.int .i64 sl))) := Lib.hid (Kept.below (S := fun j => j = eb) HB3.out (Kept.setCell (S := fun j => j = eb) (Kept.refl _ _) (p := ⟨eb, 4, none⟩) (.inl rfl) _) (fun j hj => by have := HRL.out; omega) (by have := KR3.out.lt; omega))
    clear HV3 KE3 KR3 HB3
    go_upto_region 6 with (fail)
    generalize W3.setCell ⟨eb, 4, none⟩ (.int .i64 sl) = W4 at *
    clear z3 c4 f4
    clear W3
    have c5 : W4.cell? ⟨eb, 5, none⟩ = some (.int .i64 0) := KE4.out.cell 5
    have f5 : W4.frozen? ⟨eb, 5, none⟩ = false := KE4.out.frozen 5
    have HV5 : Hid (LgM (W4.setCell ⟨eb, 5, none⟩ (.int .i64 (-1))) b T v s n) := Lib.hid (HV4.out.kept (R := fun j => j = eb) (Kept.setCell (S := fun j => j = eb) (Kept.refl _ _) (p := ⟨eb, 5, none⟩) (.inl rfl) _) (fun j hj => HNE.out j hj))
    have KE5 : Hid (Blk (W4.setCell ⟨eb, 5, none⟩ (.int .i64 (-1))) eb 30 (cellsXv ⟨e.cl, e.rq, e.dl, g, sl, -1, 0⟩)) := Lib.hid (KE4.out.set_ 5 (.int .i64 (-1)))
    have KR5 : Hid (Blk (W4.setCell ⟨eb, 5, none⟩ (.int .i64 (-1))) rb 30 (cellsXv xvZ)) := Lib.hid (KR4.out.far (p := ⟨eb, 5, none⟩) HRE.out _)
    have HB5 : Hid (Below rb w (W4.setCell ⟨eb, 5, none⟩ (.int .i64 (-1)))) := Lib.hid (Kept.below (S := fun j => j = eb) HB4.out (Kept.setCell (S := fun j => j = eb) (Kept.refl _ _) (p := ⟨eb, 5, none⟩) (.inl rfl) _) (fun j hj => by have := HRL.out; omega) (by have := KR4.out.lt; omega))
    clear HV4 KE4 KR4 HB4
    go_upto_region 7 with (fail)
    generalize W4.setCell ⟨eb, 5, none⟩ (.int .i64 (-1)) = W5 at *
    clear c5 f5
    clear W4
    have z4 : W5.cell? ⟨b, 4, none⟩ = some (.map (some v.m4)) := HV5.out.cell 4
    have HM5 := Lib.hid HV5.out.pd
    have HIO : Hid (rb < W5.heap.size ∧ eb < W5.heap.size) := Lib.hid ⟨KR5.out.lt, KE5.out.lt⟩
    cases hp : s.pd i with
    | none =>
      have HP := Lib.hid hp
      have HL4 : Hid (lookV true (.agg (cellsFu fuZ)) ((s.pd i).map fuV) = .tuple #[.agg (cellsFu fuZ), .bool false]) := Lib.hid (by rw [hp]; rfl)
      have KE6 := Lib.hid (KE5.out.alloc (.cells (cellsFu fuZ) 91))
      have KR6 := Lib.hid (KR5.out.alloc (.cells (cellsFu fuZ) 91))
      have HB6 := Lib.hid (HB5.out.alloc (Nat.le_of_lt HIO.out.1) (.cells (cellsFu fuZ) 91))
      clear hp
      go_upto_region 8 with (first | (refine wpList_lookF rfl true _ _ rfl HM5.out Try.underlying3 Try.underlying74 _ (zeroFu _) i rfl rfl HI.out _ HL4.out ?_) | (refine wpList_store_row rfl _ _ _ rfl W5.heap.size (cellsFu fuZ) rfl rfl 91 _ (heap_alloc_new W5 _) infoFu rfl (cellsFu_one _) ?_; rw [World.setRow_alloc_new]))
      generalize W5.alloc (.cells (cellsFu fuZ) 91) = W6 at *
      clear z4 HM5 HV5 KE5 KR5 HB5 HIO
      generalize W5.heap.size = pb at *
      clear W5
      go_wp2_with (first | (refine wpList_load_row rfl 30 _ rfl eb rfl 30 (cellsXv ⟨e.cl, e.rq, e.dl, g, sl, -1, 0⟩) (0, 0) _ KE6.out Try.underlying30 rfl infoXv ?_) | (refine wpList_store_row rfl _ _ _ rfl rb (cellsXv ⟨e.cl, e.rq, e.dl, g, sl, -1, 0⟩) rfl rfl 30 _ KR6.out infoXv rfl (cellsXv_one _) ?_))
      refine bodyPost_ret (v := .tuple #[.agg (cellsXv ⟨e.cl, e.rq, e.dl, g, sl, -1, 0⟩), .bool true]) (results_cell_row2 (fn := Try.f27) rfl _ _ rb 30 (cellsXv ⟨e.cl, e.rq, e.dl, g, sl, -1, 0⟩) (0, 0) _ rfl (KR6.out.setRow (cellsXv ⟨e.cl, e.rq, e.dl, g, sl, -1, 0⟩)) Try.underlying30 rfl infoXv) rfl ⟨?_, ?_⟩
      · rw [HE.out, HP.out, ← HG.out, ← HSL.out]; rfl
      · rw [HRW.out]; exact below_row HB6.out KR6.out _
    | some p =>
      obtain ⟨pe, pa⟩ := p
      have HP := Lib.hid hp
      have HL4 : Hid (lookV true (.agg (cellsFu fuZ)) ((s.pd i).map fuV) = .tuple #[.agg (cellsFu ⟨pe, pa⟩), .bool true]) := Lib.hid (by rw [hp]; rfl)
      have KE6 := Lib.hid (KE5.out.alloc (.cells (cellsFu ⟨pe, pa⟩) 91))
      have KR6 := Lib.hid (KR5.out.alloc (.cells (cellsFu ⟨pe, pa⟩) 91))
      have HB6 := Lib.hid (HB5.out.alloc (Nat.le_of_lt HIO.out.1) (.cells (cellsFu ⟨pe, pa⟩) 91))
      have KP6 : Hid (Blk (W5.alloc (.cells (cellsFu ⟨pe, pa⟩) 91)) W5.heap.size 91 (cellsFu ⟨pe, pa⟩)) := Lib.hid (Blk.new _ _ _)
      have HPE : Hid (W5.heap.size ≠ eb) := Lib.hid (by have := HIO.out.2; omega)
      clear hp
      go_upto_region 8 with (first | (refine wpList_lookF rfl true _ _ rfl HM5.out Try.underlying3 Try.underlying74 _ (zeroFu _) i rfl rfl HI.out _ HL4.out ?_) | (refine wpList_store_row rfl _ _ _ rfl W5.heap.size (cellsFu ⟨pe, pa⟩) rfl rfl 91 _ (heap_alloc_new W5 _) infoFu rfl (cellsFu_one _) ?_; rw [World.setRow_alloc_new]))
      generalize W5.alloc (.cells (cellsFu ⟨pe, pa⟩) 91) = W6 at *
      clear z4 HM5 HV5 KE5 KR5 HB5 HIO HL4
      generalize W5.heap.size = pb at *
      clear W5
      go_wp2_with (fail)
      have d0 : W6.drew.cell? ⟨pb, 0, none⟩ = some (.int .i64 pe) := KP6.out.cell 0
      have d1 : W6.drew.cell? ⟨pb, 1, none⟩ = some (.int .u64 pa) := KP6.out.cell 1
      have KE7 : Hid (Blk W6.drew eb 30 _) := Lib.hid KE6.out.drew
      have KP7 : Hid (Blk W6.drew pb 91 _) := Lib.hid KP6.out.drew
      have KR7 : Hid (Blk W6.drew rb 30 _) := Lib.hid KR6.out.drew
      have HB7 : Hid (Below rb w W6.drew) := Lib.hid HB6.out.drew
      clear KE6 KP6 KR6 HB6
      try simp only [Act.put]
      refine wp_region_first (fun w' => w'.cell? ⟨pb, 0, none⟩ = some (.int .i64 pe) ∧ w'.cell? ⟨pb, 1, none⟩ = some (.int .u64 pa)) 6 1 [0, 1, 2, 3, 4] (by kernel_rfl) (by kernel_rfl) ⟨d0, d1⟩ ?_
      simp only [List.filterMap_cons, List.filterMap_nil, List.getElem?_toArray, List.getElem?_cons_zero, List.getElem?_cons_succ]
      show wpQuiet _ _ _ _ [_, _, _, _, _] _
      iterate 1 (go_big_quiet_step ((intros; rfl)))
      refine q_cell 3 _ _ (.int .i64 pe) rfl rfl rfl (fun w h => by simp [go_sem, h]) (fun w h => h.1) ?_
      simp only [Act.put, List.setIfInBounds_toArray, List.set_cons_zero, List.set_cons_succ]
      iterate 1 (go_big_quiet_step ((intros; rfl)))
      refine q_cell 28 _ _ (.int .u64 pa) rfl rfl rfl (fun w h => by simp [go_sem, h]) (fun w h => h.2) ?_
      simp only [Act.put, List.setIfInBounds_toArray, List.set_cons_zero, List.set_cons_succ]
      iterate 1 (go_big_quiet_step ((intros; rfl)))
      refine wpQuiet_nil ?_
      refine headF_one (i := 5) (by kernel_rfl) (by omega) ?_
      refine wpOp_at rfl rfl (wp_store_int 3 _ _ rfl eb 5 .i64 pe 30 _ rfl rfl rfl KE7.out (by rw [cellsXv_size]; omega) ?_)
      have KE8 : Hid (Blk (W6.drew.setCell ⟨eb, 5, none⟩ (.int .i64 pe)) eb 30 (cellsXv ⟨e.cl, e.rq, e.dl, g, sl, pe, 0⟩)) := Lib.hid (KE7.out.set_ 5 (.int .i64 pe))
      have KP8 := Lib.hid (KP7.out.far (p := ⟨eb, 5, none⟩) HPE.out (.int .i64 pe))
      have KR8 := Lib.hid (KR7.out.far (p := ⟨eb, 5, none⟩) HRE.out (.int .i64 pe))
      have HB8 : Hid (Below rb w (W6.drew.setCell ⟨eb, 5, none⟩ (.int .i64 pe))) := Lib.hid (Kept.below (S := fun j => j = eb) HB7.out (Kept.setCell (S := fun j => j = eb) (Kept.refl _ _) (p := ⟨eb, 5, none⟩) (.inl rfl) _) (fun j hj => by have := HRL.out; omega) (by have := KR7.out.lt; omega))
      refine ⟨⟨KP8.out.cell 0, KP8.out.cell 1⟩, ?_⟩
      clear d0 d1 KE7 KP7 KR7 HB7
      generalize W6.drew.setCell ⟨eb, 5, none⟩ (.int .i64 pe) = W8 at *
      clear W6
      show Region.seqB _ _ _ _ _ = true ∧ _
      refine ⟨by kernel_rfl, ?_⟩
      simp only [Act.put, List.getElem_toArray, List.getElem_cons_zero, List.getElem_cons_succ, List.setIfInBounds_toArray, List.set_cons_zero, List.set_cons_succ, List.drop_succ_cons, List.drop_zero]
      have c6 : W8.cell? ⟨eb, 6, none⟩ = some (.int .u64 0) := KE8.out.cell 6
      have f6 : W8.frozen? ⟨eb, 6, none⟩ = false := KE8.out.frozen 6
      have KE9 : Hid (Blk (W8.setCell ⟨eb, 6, none⟩ (.int .u64 pa)) eb 30 (cellsXv ⟨e.cl, e.rq, e.dl, g, sl, pe, pa⟩)) := Lib.hid (KE8.out.set_ 6 (.int .u64 pa))
      have KR9 := Lib.hid (KR8.out.far (p := ⟨eb, 6, none⟩) HRE.out (.int .u64 pa))
      have HB9 : Hid (Below rb w (W8.setCell ⟨eb, 6, none⟩ (.int .u64 pa))) := Lib.hid (Kept.below (S := fun j => j = eb) HB8.out (Kept.setCell (S := fun j => j = eb) (Kept.refl _ _) (p := ⟨eb, 6, none⟩) (.inl rfl) _) (fun j hj => by have := HRL.out; omega) (by have := KR8.out.lt; omega))
      go_wp2
      generalize W8.setCell ⟨eb, 6, none⟩ (.int .u64 pa) = W9 at *
      clear c6 f6 KE8 KP8 KR8 HB8
      clear W8
      refine NoPanic.normal ?_
      go_wp2_with (first | (refine wpList_load_row rfl 30 _ rfl eb rfl 30 (cellsXv ⟨e.cl, e.rq, e.dl, g, sl, pe, pa⟩) (0, 0) _ KE9.out Try.underlying30 rfl infoXv ?_) | (refine wpList_store_row rfl _ _ _ rfl rb (cellsXv ⟨e.cl, e.rq, e.dl, g, sl, pe, pa⟩) rfl rfl 30 _ KR9.out infoXv rfl (cellsXv_one _) ?_))
      refine bodyPost_ret (v := .tuple #[.agg (cellsXv ⟨e.cl, e.rq, e.dl, g, sl, pe, pa⟩), .bool true]) (results_cell_row2 (fn := Try.f27) rfl _ _ rb 30 (cellsXv ⟨e.cl, e.rq, e.dl, g, sl, pe, pa⟩) (0, 0) _ rfl (KR9.out.setRow (cellsXv ⟨e.cl, e.rq, e.dl, g, sl, pe, pa⟩)) Try.underlying30 rfl infoXv) rfl ⟨?_, ?_⟩
      · rw [HE.out, HP.out, ← HG.out, ← HSL.out]; rfl
      · rw [HRW.out]; exact below_row HB9.out KR9.out _
end Go.Proofs.Ythnhpmeacboljaa
