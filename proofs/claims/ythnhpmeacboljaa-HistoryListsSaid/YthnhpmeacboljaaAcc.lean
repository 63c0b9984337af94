/- accept: the exit of a receipt, unless its validator has one. -/
import Derived.Test.YthnhpmeacboljaaKfs
import Derived.Test.YthnhpmeacboljaaBuild
namespace Go.Proofs.Ythnhpmeacboljaa
open Go Go.RowKit Go.Deep
set_option linter.unusedVariables false
set_option linter.unusedSimpArgs false
set_option maxRecDepth 100000

theorem appInt : ∃ i, Try.prog.info? 3 = some i ∧ i.zero = some (.int .i64 0) ∧ i.size = 1 ∧ i.bytes = 8 := by
  have h : (Try.prog.info? 3).map (fun i => (i.zero, i.size, i.bytes)) = some (some (.int .i64 0), 1, 8) := by kernel_rfl
  cases hi : Try.prog.info? 3 with
  | none => rw [hi] at h; cases h
  | some i =>
    rw [hi] at h
    simp at h
    exact ⟨i, rfl, h.1, h.2.1, h.2.2⟩
theorem LgM.cell {w : World} {b : Nat} {T : Nat → Prop} {v : Lv} {s : St} {n : Int} (h : LgM w b T v s n) (i : Nat) : w.cell? ⟨b, i, none⟩ = (cellsLg v s.od.length n s.ep)[i]? := h.blk.cell i
theorem accX_no {s : St} {i : Int} {u : Ex0} (h : s.ex i = some u) (c ep dl : Int) : accX s c i ep dl = { s with ex := keepF s.ex i ⟨c, ep, dl⟩ } := by simp [accX, h]
theorem accX_yes {s : St} {i : Int} (h : s.ex i = none) (c ep dl : Int) : accX s c i ep dl = { s with ex := keepF s.ex i ⟨c, ep, dl⟩, od := s.od ++ [i] } := by simp [accX, h]
set_option maxHeartbeats 1600000 in
theorem accept_go (b : Nat) (T : Nat → Prop) (s : St) (n c : Int) (r : Rc) (w : World) (h : LgAt w b T s n) (hr : I64 r.ix) (hl : s.od.length ≤ 1000000) :
    Calls Try.prog 52 #[.pointer (some ⟨b, 0, none⟩), .int .i64 c, .agg (cellsRc r)] w fun e w' => e = .returned (.tuple #[]) ∧ LgGo w T w' b (accX s c r.ix r.ep r.dl) n := by
  obtain ⟨v, hv⟩ := h
  obtain ⟨ix, hix⟩ : ∃ ix, r.ix = ix := ⟨_, rfl⟩
  obtain ⟨ep, hep⟩ : ∃ ep, r.ep = ep := ⟨_, rfl⟩
  obtain ⟨dl, hdl⟩ : ∃ dl, r.dl = dl := ⟨_, rfl⟩
  have HI := Lib.hid (hix ▸ wf_i64 hr)
  have HB : Hid (Below w.heap.size w (w.alloc (.cells (cellsRc r) 60))) := Lib.hid ((Below.refl _ _).alloc (Nat.le_refl _) _)
  have KR : Hid (Blk (w.alloc (.cells (cellsRc r) 60)) w.heap.size 60 (cellsRc r)) := Lib.hid (Blk.new _ _ _)
  have HL := Lib.hid (hv.below HB.out)
  have HT := Lib.hid hv.lt
  have HC : Hid ((cellsRc r)[2]? = some (.int .i64 ix) ∧ (cellsRc r)[4]? = some (.int .i64 ep) ∧ (cellsRc r)[5]? = some (.int .i64 dl)) := Lib.hid ⟨by rw [← hix]; rfl, by rw [← hep]; rfl, by rw [← hdl]; rfl⟩
  rw [hix, hep, hdl]
  clear hv hix hep hdl hr
  go_enter Try.func52, Try.ntmps52
  go_upto_region 1 with (fail)
  obtain ⟨cs, hcs⟩ : ∃ cs, cellsRc r = cs := ⟨_, rfl⟩
  rw [hcs] at HB KR HL HC ⊢
  clear hcs
  obtain ⟨W, hW⟩ : ∃ W, w.alloc (.cells cs 60) = W := ⟨_, rfl⟩
  obtain ⟨rb, hrb⟩ : ∃ rb, w.heap.size = rb := ⟨_, rfl⟩
  rw [hW] at HB KR HL ⊢
  rw [hrb] at KR ⊢
  have HRB := Lib.hid hrb
  clear hW hrb
  have x2 : W.cell? ⟨rb, 2, none⟩ = some (.int .i64 ix) := (KR.out.cell 2).trans HC.out.1
  have x4 : W.cell? ⟨rb, 4, none⟩ = some (.int .i64 ep) := (KR.out.cell 4).trans HC.out.2.1
  have x5 : W.cell? ⟨rb, 5, none⟩ = some (.int .i64 dl) := (KR.out.cell 5).trans HC.out.2.2
  go_upto_region 2 with (first | (refine wpList_build_Xv rfl 30 _ rfl ⟨c, ep, dl, 0, 0, 0, 0⟩ (by kernel_rfl) ?_) | (refine wpList_store_row rfl _ _ _ rfl W.heap.size (cellsXv ⟨c, ep, dl, 0, 0, 0, 0⟩) rfl rfl 30 _ (heap_alloc_new W _) infoXv rfl (cellsXv_one _) ?_; rw [World.setRow_alloc_new]))
  have HL2 := Lib.hid (HL.out.below (w' := W.alloc (.cells (cellsXv ⟨c, ep, dl, 0, 0, 0, 0⟩) 30)) ((Below.refl _ _).alloc (Nat.le_refl _) _))
  have KX : Hid (Blk (W.alloc (.cells (cellsXv ⟨c, ep, dl, 0, 0, 0, 0⟩) 30)) W.heap.size 30 (cellsXv ⟨c, ep, dl, 0, 0, 0, 0⟩)) := Lib.hid (Blk.new _ _ _)
  have KR2 := Lib.hid (KR.out.alloc (.cells (cellsXv ⟨c, ep, dl, 0, 0, 0, 0⟩) 30))
  have HB2 := Lib.hid (HB.out.alloc HB.out.size (.cells (cellsXv ⟨c, ep, dl, 0, 0, 0, 0⟩) 30))
  clear x2 x4 x5 HL KR HB
  generalize W.alloc (.cells (cellsXv ⟨c, ep, dl, 0, 0, 0, 0⟩) 30) = W2 at *
  generalize W.heap.size = xb at *
  clear W
  have x2 : W2.cell? ⟨rb, 2, none⟩ = some (.int .i64 ix) := (KR2.out.cell 2).trans HC.out.1
  have y0 : W2.cell? ⟨b, 0, none⟩ = some (.map (some v.m1)) := HL2.out.cell 0
  try simp only [Act.put]
  refine wp_region_quiet_tail 7 (by kernel_rfl) (by kernel_rfl) ?_
  simp only [List.take_succ_cons, List.take_zero, List.drop_succ_cons, List.drop_zero]
  iterate 6 (go_big_quiet_step ((intros; rfl)))
  refine q_load_Xv 30 _ xb 0 ⟨c, ep, dl, 0, 0, 0, 0⟩ _ rfl rfl rfl (fun w' h => by obtain ⟨m, rfl⟩ := h; exact KX.out.rangeXv) Try.underlying30 rfl infoXv ?_
  simp only [Act.put, List.setIfInBounds_toArray, List.set_cons_zero, List.set_cons_succ]
  refine wpQuiet_nil ?_
  intro _ hw'
  obtain ⟨m, hw''⟩ := hw'
  subst hw''
  have HL3 : Hid (LgM (W2.drewN m) b T v s n) := Lib.hid (HL2.out.below (below_drewN (Below.refl _ _) m))
  have KR3 := Lib.hid (KR2.out.drewN m)
  have HB3 := Lib.hid (below_drewN HB2.out m)
  clear x2 y0 HL2 KR2 HB2 KX
  generalize W2.drewN m = W at *
  clear W2
  go_wp2_with (fail)
  refine (keepX_any v.m1 s.ex ix ⟨c, ep, dl⟩ W HL3.out.ex HI.out).mono ?_
  rintro e w1 ⟨rfl, hm, hk⟩
  have HL4 := Lib.hid (HL3.out.set_ex hk hm)
  have KR4 := Lib.hid (KR3.out.kept hk (fun he => by have := HT.out _ (HL3.out.tm v.m1 (by simp)); have := HRB.out; omega))
  have HK4 : Hid (Kept T w w1) := Lib.hid ((Kept.of_below HB3.out).trans hk (fun j _ hj => hj ▸ HL3.out.tm v.m1 (by simp)))
  clear hm hk HL3 KR3 HB3
  cases hx : s.ex ix with
  | some u =>
    have HE := Lib.hid (accX_no hx c ep dl)
    have HN : Hid ((s.ex ix).isNone = false) := Lib.hid (by rw [hx]; rfl)
    rw [hx] at *
    clear hx
    go_wp2_with (fail)
    go_end0
    rw [HE.out]
    exact ⟨rfl, LgGo.after HK4.out (LgAt.go ⟨v, HL4.out⟩)⟩
  | none =>
    have HE := Lib.hid (accX_yes hx c ep dl)
    clear hx
    go_wp2_with (fail)
    have HL5 : Hid (LgM w1.drew b T v { s with ex := keepF s.ex ix ⟨c, ep, dl⟩ } n) := Lib.hid (HL4.out.below (below_drewN (Below.refl _ _) 1))
    have KR5 : Hid (Blk w1.drew rb _ _) := Lib.hid (KR4.out.drew)
    have HK5 : Hid (Kept T w w1.drew) := Lib.hid HK4.out.drew
    clear HL4 KR4 HK4
    obtain ⟨q, hq⟩ : ∃ q, s.od.length = q := ⟨_, rfl⟩
    have HQ := Lib.hid hq
    rw [hq] at hl
    have z1 : w1.drew.cell? ⟨b, 1, none⟩ = some (.slice v.oa q v.oc) := by rw [← hq]; exact HL5.out.cell 1
    have x2 : w1.drew.cell? ⟨rb, 2, none⟩ = some (.int .i64 ix) := (KR5.out.cell 2).trans HC.out.1
    clear hq
    refine wp_region_first (fun w' => w'.cell? ⟨b, 1, none⟩ = some (.slice v.oa q v.oc) ∧ w'.cell? ⟨rb, 2, none⟩ = some (.int .i64 ix)) 9 2 [0, 1, 2, 3, 4, 5, 6] (by kernel_rfl) (by kernel_rfl) ⟨z1, x2⟩ ?_
    simp only [List.filterMap_cons, List.filterMap_nil, List.getElem?_toArray, List.getElem?_cons_zero, List.getElem?_cons_succ]
    show wpQuiet _ _ _ _ [_, _, _, _, _, _, _] _
    iterate 4 (go_big_quiet_step ((intros; rfl)))
    refine q_cell 51 _ _ (.slice v.oa q v.oc) rfl rfl rfl (fun w h => by simp [go_sem, h]) (fun w h => h.1) ?_
    simp only [Act.put, List.setIfInBounds_toArray, List.set_cons_zero, List.set_cons_succ]
    iterate 1 (go_big_quiet_step ((intros; rfl)))
    refine q_cell 3 _ _ (.int .i64 ix) rfl rfl rfl (fun w h => by simp [go_sem, h]) (fun w h => h.2) ?_
    simp only [Act.put, List.setIfInBounds_toArray, List.set_cons_zero, List.set_cons_succ]
    refine wpQuiet_nil ?_
    obtain ⟨i, hi, hz, hs1, hby⟩ := appInt
    refine headF_one (i := 7) (by kernel_rfl) (by omega) ?_
    refine wpOp_at rfl rfl (wp_buildSlice_one 51 3 i (.tmp 27) _ (.int .i64 ix) rfl rfl Try.underlying51 hi hz hs1 rfl rfl ⟨⟨cell_alloc_some _ z1, cell_alloc_some _ x2⟩, ?_⟩)
    refine headF_one (i := 8) (by kernel_rfl) (by omega) ?_
    simp only [Act.put, List.getElem_toArray, List.getElem_cons_zero, List.getElem_cons_succ, List.setIfInBounds_toArray, List.set_cons_zero, List.set_cons_succ]
    have HL6 := Lib.hid (HL5.out.below (w' := w1.drew.alloc (.cells #[.int .i64 ix] 3)) ((Below.refl _ _).alloc (Nat.le_refl _) _))
    have KR6 := Lib.hid (KR5.out.alloc (.cells #[.int .i64 ix] 3))
    have HK6 := Lib.hid (HK5.out.alloc (.cells #[.int .i64 ix] 3))
    have KN : Hid (Blk (w1.drew.alloc (.cells #[.int .i64 ix] 3)) w1.drew.heap.size 3 #[.int .i64 ix]) := Lib.hid (Blk.new _ _ _)
    clear HL5 KR5 HK5 z1 x2
    generalize w1.drew.alloc (.cells #[.int .i64 ix] 3) = W at *
    generalize w1.drew.heap.size = g at *
    clear w1
    refine wpOp_at rfl rfl (wp_append_src _ (.tmp 25) (.tmp 28) 51 rfl 0 3 i _ 1 8 Try.underlying51 hi hz hs1 hby rfl (by omega) (.slice v.oa q v.oc) q (s.od.map (Value.int .i64)) rfl (by rw [← HQ.out]; exact HL6.out.od)
      (some ⟨g, 0, none⟩) 1 1 [.int .i64 ix] rfl rfl (fun _ => ⟨_, rfl, fun j u hu => by rw [add_plain, Nat.zero_add, KN.out.cell j]; simpa using hu⟩) (by simp [Value.oneCell']) (by unfold maxLen; omega) (by omega) (by omega) ?_)
    intro s' w3 ho3 hg3 hs3
    obtain ⟨a', cp', rfl, -, -⟩ := ownsR_slice ho3
    have HG : Hid (LgGo W T (w3.setCell ⟨b, 1, none⟩ (.slice a' (q + 1) cp')) b { s with ex := keepF s.ex ix ⟨c, ep, dl⟩, od := s.od ++ [ix] } n) := Lib.hid (by
      have e := HQ.out
      subst e
      exact HL6.out.push HI.out hg3 ho3 hs3)
    have hnb : ∀ x t cs, Blk W x t cs → t ≠ 3 → Blk w3 x t cs := fun x t cs hB ht => hB.grown hg3 (fun he => by
      obtain ⟨cur, hB2, _⟩ := ownsR_blk HL6.out.od (i := x) (by rw [HQ.out]; exact he.symm)
      exact Blk.ne_ hB hB2 ht rfl)
    have B3 := Lib.hid (hnb _ _ _ HL6.out.blk (by decide))
    have z1 : w3.cell? ⟨b, 1, none⟩ = some (.slice v.oa q v.oc) := (B3.out.cell 1).trans (by rw [← HQ.out]; rfl)
    have x2 : w3.cell? ⟨rb, 2, none⟩ = some (.int .i64 ix) := ((hnb _ _ _ KR6.out (by decide)).cell 2).trans HC.out.1
    have z2 : w3.frozen? ⟨b, 1, none⟩ = false := B3.out.frozen 1
    refine ⟨⟨z1, x2⟩, ?_⟩
    clear ho3 hg3 hs3 hi hz hs1 hby hnb B3 x2
    simp only [Act.put, List.getElem_toArray, List.getElem_cons_zero, List.getElem_cons_succ, List.setIfInBounds_toArray, List.set_cons_zero, List.set_cons_succ]
    show Region.seqB _ _ _ _ _ = true ∧ _
    refine ⟨by kernel_rfl, ?_⟩
    simp only [Act.put, List.getElem_toArray, List.getElem_cons_zero, List.getElem_cons_succ, List.setIfInBounds_toArray, List.set_cons_zero, List.set_cons_succ, List.drop_succ_cons, List.drop_zero]
    go_wp2
    refine NoPanic.normal ?_
    go_wp2
    go_end0
    rw [HE.out]
    exact ⟨rfl, LgGo.after HK6.out HG.out⟩
end Go.Proofs.Ythnhpmeacboljaa
