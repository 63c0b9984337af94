/- perform. -/
import Derived.Test.YtnaheindlkehhaaReq
import Derived.Test.YtnaheindlkehhaaWhole
namespace Go.Proofs.Ytnaheindlkehhaa
open Go Go.RowKit Go.Deep
set_option linter.unusedVariables false
set_option linter.unusedSimpArgs false
set_option maxRecDepth 100000

/-- perform's two boxes. -/
def PerB (w W : World) (p : Int × Int) (c : Nat → Int) : Prop :=
  Blk W w.heap.size 61 (cellsP p) ∧ Blk W (w.heap.size + 1) 26 (cellsOf c) ∧ Below w.heap.size w W
theorem PerB.new (w : World) (p : Int × Int) (c : Nat → Int) : PerB w ((w.alloc (.cells (cellsP p) 61)).alloc (.cells (cellsOf c) 26)) p c :=
  ⟨Blk.alloc (Blk.new w _ _) _, tri_two w _ _ _, ((Below.refl _ _).alloc (Nat.le_refl _) _).alloc (by simp) _⟩
theorem PerB.next {w W W' : World} {p : Int × Int} {c : Nat → Int} (h : PerB w W p c) (hb : Below W.heap.size W W') : PerB w W' p c :=
  ⟨h.1.below hb h.1.lt, h.2.1.below hb h.2.1.lt, h.2.2.trans (hb.mono h.2.2.size)⟩
set_option maxHeartbeats 400000 in
theorem perform_no (S : Nat → Prop) (a : Option Addr) (l : List Val) (cp : Nat) (p : Int × Int) (c : Nat → Int) (w : World) (hL : Lst w S a l) (hf : ∀ v ∈ l, FitsV v) (h : reqM l p (c 6) ≠ 0) :
    Calls Try.prog 33 #[.agg (cellsP p), .slice a l.length cp, .agg (cellsOf c)] w fun e w' => e = .returned (.bool false) ∧ Below w.heap.size w w' := by
  have T := Lib.hid (PerB.new w p c)
  have HR := Lib.hid (fun w (hL : Lst w S a l) => request_any S a l cp p c w hL hf)
  have HL := Lib.hid (show Lst ((w.alloc (.cells (cellsP p) 61)).alloc (.cells (cellsOf c) 26)) S a l from hL.below T.out.2.2)
  generalize reqM l p (c 6) = r at *
  have q : (r != 0) = true := by simpa using h
  obtain ⟨n, hn⟩ : ∃ n, l.length = n := ⟨_, rfl⟩
  rw [hn] at HR ⊢
  obtain ⟨p1, p2⟩ := p
  simp only at HR
  clear hL hf h hn
  go_enter Try.func33, Try.ntmps33
  go_upto_region 1 with (fail)
  generalize (w.alloc (.cells (cellsP (p1, p2)) 61)).alloc (.cells (cellsOf c) 26) = W at *
  have x0 : W.cell? ⟨w.heap.size, 0, none⟩ = some (.int .i64 p1) := T.out.1.cell 0
  have x1 : W.cell? ⟨w.heap.size, 1, none⟩ = some (.int .i64 p2) := T.out.1.cell 1
  go_quiet (fail)
  have T1 : Hid (PerB w (W.drewN nq) (p1, p2) c) := Lib.hid ⟨T.out.1, T.out.2.1, below_drewN T.out.2.2 nq⟩
  have HL1 : Hid (Lst (W.drewN nq) S a l) := Lib.hid HL.out
  clear T HL x0 x1
  generalize W.drewN nq = w1 at *
  go_wp2_with (first | (refine wpList_load_row rfl 26 _ rfl (w.heap.size + 1) rfl 26 _ (0, 0) _ T1.out.2.1 Try.underlying26 rfl info24 ?_))
  refine (HR.out _ HL1.out).mono ?_
  rintro e w2 ⟨rfl, b2⟩
  have B2 := Lib.hid (T1.out.2.2.trans (b2.mono T1.out.2.2.size))
  clear b2
  go_wp2_with fail
  go_ret
  exact ⟨rfl, B2.out⟩
/-- Two elements of one's own row are stored. -/
theorem owns_move {w : World} {g cp i j : Nat} {l : List Val} {s d : Val} (h : w.ownsRow 0 24 7 (.slice (some ⟨g, 0, none⟩) l.length cp) l.length (flat l)) (hi : l[i]? = some s) (hj : l[j]? = some d) (hne : i ≠ j) (x y : Val) :
    w.there g (i * 7) 7 ∧ (w.setCells g (i * 7) x.row).there g (j * 7) 7 ∧ ((w.setCells g (i * 7) x.row).setCells g (j * 7) y.row).ownsRow 0 24 7 (.slice (some ⟨g, 0, none⟩) l.length cp) l.length (flat ((l.set i x).set j y)) := by
  obtain ⟨h1, h2⟩ := owns_set h hi x
  have e : (l.set i x).length = l.length := List.length_set
  rw [← e] at h1
  have hj' : (l.set i x)[j]? = some d := by rw [List.getElem?_set_ne hne]; exact hj
  obtain ⟨h3, h4⟩ := owns_set h1 hj' y
  rw [e] at h3
  exact ⟨h2, h4, h3⟩
set_option maxHeartbeats 1600000 in
theorem perform_ok (g : Nat) (l : List Val) (cp i j : Nat) (s d : Val) (c : Nat → Int) (w : World) (hO : w.ownsRow 0 24 7 (.slice (some ⟨g, 0, none⟩) l.length cp) l.length (flat l)) (hf : ∀ v ∈ l, FitsV v)
    (hi : l[i]? = some s) (hj : l[j]? = some d) (hne : i ≠ j) (hk : chkM s d (c 6) = 0) :
    Calls Try.prog 33 #[.agg (cellsP ((i : Int), (j : Int))), .slice (some ⟨g, 0, none⟩) l.length cp, .agg (cellsOf c)] w fun e w' => e = .returned (.bool true) ∧
      w'.ownsRow 0 24 7 (.slice (some ⟨g, 0, none⟩) l.length cp) l.length (flat ((l.set i (mvS s)).set j (mvD s d))) ∧ Kept (fun k => k = g) w w' := by
  have hgw : g < w.heap.size := (hO.lt g rfl).2
  have T := Lib.hid (PerB.new w ((i : Int), (j : Int)) c)
  have HR := Lib.hid (fun w (hL : Lst w (fun _ => False) (some ⟨g, 0, none⟩) l) => request_any (fun _ => False) (some ⟨g, 0, none⟩) l cp ((i : Int), (j : Int)) c w hL hf)
  rw [req_at (c 6) hi hj, if_neg hne, hk] at HR
  have hs := hf s (List.mem_of_getElem? hi)
  have hd := hf d (List.mem_of_getElem? hj)
  have HA := Lib.hid (fun w => apply_ok s d c w hs hd hk)
  have HO : Hid (((w.alloc (.cells (cellsP ((i : Int), (j : Int))) 61)).alloc (.cells (cellsOf c) 26)).ownsRow 0 24 7 (.slice (some ⟨g, 0, none⟩) l.length cp) l.length (flat l)) := Lib.hid (owns_same hO (fun k hk => by
    simp only [Value.ownBlock, Option.some.injEq] at hk
    subst hk
    exact T.out.2.2.block _ hgw))
  have HIJ := Lib.hid (And.intro hi (And.intro hj hne))
  have hil := (List.getElem?_eq_some_iff.1 hi).1
  have hjl := (List.getElem?_eq_some_iff.1 hj).1
  obtain ⟨n, hn⟩ : ∃ n, l.length = n := ⟨_, rfl⟩
  have HN := Lib.hid hn
  rw [hn] at HR hil hjl ⊢
  simp only at HR
  clear hO hi hj hne hk hs hd hf hn
  go_enter Try.func33, Try.ntmps33
  go_upto_region 1 with (fail)
  generalize (w.alloc (.cells (cellsP ((i : Int), (j : Int))) 61)).alloc (.cells (cellsOf c) 26) = W at *
  have x0 : W.cell? ⟨w.heap.size, 0, none⟩ = some (.int .i64 (i : Int)) := T.out.1.cell 0
  have x1 : W.cell? ⟨w.heap.size, 1, none⟩ = some (.int .i64 (j : Int)) := T.out.1.cell 1
  go_quiet (fail)
  have T1 : Hid (PerB w (W.drewN nq) ((i : Int), (j : Int)) c) := Lib.hid ⟨T.out.1, T.out.2.1, below_drewN T.out.2.2 nq⟩
  have O1 : Hid ((W.drewN nq).ownsRow 0 24 7 (.slice (some ⟨g, 0, none⟩) l.length cp) l.length (flat l)) := Lib.hid HO.out
  clear T HO x0 x1
  generalize W.drewN nq = w1 at *
  go_wp2_with (first | (refine wpList_load_row rfl 26 _ rfl (w.heap.size + 1) rfl 26 _ (0, 0) _ T1.out.2.1 Try.underlying26 rfl info24 ?_))
  refine (HR.out _ (owns_lst O1.out (fun _ _ h => h))).mono ?_
  rintro e w2 ⟨rfl, b2⟩
  have g1 : g < w1.heap.size := (O1.out.lt g rfl).2
  have T2 := Lib.hid (T1.out.next b2)
  have O2 : Hid (w2.ownsRow 0 24 7 (.slice (some ⟨g, 0, none⟩) l.length cp) l.length (flat l)) := Lib.hid (owns_same O1.out (fun k hk => by
    simp only [Value.ownBlock, Option.some.injEq] at hk
    subst hk
    exact b2.block _ g1))
  clear b2 T1 O1 HR
  go_wp2_with fail
  have k1 : ¬ (i : Int) < 0 := by omega
  have k2 : ¬ (n : Int) ≤ (i : Int) := by omega
  have k3 : (i : Int) < (n : Int) := by omega
  have m1 : ¬ (j : Int) < 0 := by omega
  have m2 : ¬ (n : Int) ≤ (j : Int) := by omega
  have m3 : (j : Int) < (n : Int) := by omega
  have R2 : Hid (w2.drew.rangeAt g (i * 7) s.row ∧ w2.drew.rangeAt g (j * 7) d.row ∧ Blk w2.drew (w.heap.size + 1) 26 (cellsOf c)) := Lib.hid (by
    have hL := owns_lst (S := fun _ => False) O2.out (fun _ _ h => h)
    obtain ⟨b, o, e1, r1⟩ := hL.at HIJ.out.1
    obtain ⟨b', o', e2, r2⟩ := hL.at HIJ.out.2.1
    injection e1 with e1
    injection e1 with e1 e3 _
    injection e2 with e2
    injection e2 with e2 e4 _
    subst e1 e2 e3 e4
    rw [Nat.zero_add] at r1 r2
    exact ⟨r1, r2, T2.out.2.1⟩)
  have G2 : Hid (g < w2.drew.heap.size) := Lib.hid (O2.out.lt g rfl).2
  -- the last region
  refine wp_region_whole (fun w' => Blk w' (w.heap.size + 1) 26 (cellsOf c)) 11 [0, 1, 2, 3, 4, 5, 6, 8, 9, 10, 12] (by kernel_rfl) (by kernel_rfl) R2.out.2.2 ?_
  simp only [List.filterMap_cons, List.filterMap_nil, List.getElem?_toArray, List.getElem?_cons_zero, List.getElem?_cons_succ]
  show wpQuiet _ _ _ _ [_, _, _, _, _, _, _, _, _, _, _] _
  iterate 10 (go_big_quiet_step ((intros; rfl)))
  refine q_load 26 _ (w.heap.size + 1) 26 (cellsOf c) _ rfl rfl rfl (fun w' h => h) Try.underlying26 rfl info24 ?_
  simp only [Act.put, List.setIfInBounds_toArray, List.set_cons_zero, List.set_cons_succ]
  refine wpQuiet_nil ?_
  refine headF_two (i := 7) (k := 11) (by kernel_rfl) (of_decide_eq_true (by kernel_rfl)) (of_decide_eq_true (by kernel_rfl)) ?_ ?_
  · refine wpOp_at rfl rfl (wp_load_mid 24 _ rfl g (i * 7) rfl s.row _ R2.out.1 Try.underlying24 rfl infoV ?_)
    refine ⟨R2.out.2.2, ?_⟩
    simp only [Act.put, List.getElem_toArray, List.getElem_cons_zero, List.getElem_cons_succ, List.setIfInBounds_toArray, List.set_cons_zero, List.set_cons_succ]
    refine headF_one (i := 11) (by kernel_rfl) (of_decide_eq_true (by kernel_rfl)) ?_
    refine wpOp_at rfl rfl (wp_load_mid 24 _ rfl g (j * 7) rfl d.row _ R2.out.2.1 Try.underlying24 rfl infoV ?_)
    refine ⟨R2.out.2.2, ?_⟩
    simp only [Act.put, List.getElem_toArray, List.getElem_cons_zero, List.getElem_cons_succ, List.setIfInBounds_toArray, List.set_cons_zero, List.set_cons_succ]
    refine headF_one (i := 13) (by kernel_rfl) (of_decide_eq_true (by kernel_rfl)) ?_
    refine wpOp_at rfl rfl (wp_call_at rfl #[.agg (cellsV s), .agg (cellsV d), .agg (cellsOf c)] (by kernel_rfl) Try.call12 ((HA.out w2.drew).mono ?_))
    rintro e w3 ⟨rfl, b3⟩
    have D3 : Hid (Blk w3 (w.heap.size + 1) 26 (cellsOf c)) := Lib.hid (R2.out.2.2.below b3 R2.out.2.2.lt)
    have F3 : Hid (w3.there g (i * 7) 7 ∧ (w3.setCells g (i * 7) (cellsV (mvS s)).toList).there g (j * 7) 7 ∧ ((w3.setCells g (i * 7) (cellsV (mvS s)).toList).setCells g (j * 7) (cellsV (mvD s d)).toList).ownsRow 0 24 7 (.slice (some ⟨g, 0, none⟩) l.length cp) l.length (flat ((l.set i (mvS s)).set j (mvD s d)))) := Lib.hid (owns_move (owns_same O2.out (fun k hk => by simp only [Value.ownBlock, Option.some.injEq] at hk; subst hk; exact b3.block _ G2.out)) HIJ.out.1 HIJ.out.2.1 HIJ.out.2.2 _ _)
    have K3 : Hid (Kept (fun k => k = g) w w3) := Lib.hid (Kept.of_below (T2.out.2.2.drew.trans (b3.mono T2.out.2.2.size)))
    have N3 : Hid (g ≠ w.heap.size + 1) := Lib.hid (by omega)
    clear b3
    refine ⟨_, rfl, D3.out, ?_⟩
    simp only [Act.put, List.getElem_toArray, List.getElem_cons_zero, List.getElem_cons_succ, List.setIfInBounds_toArray, List.set_cons_zero, List.set_cons_succ]
    refine headF_takesW (f := 3) (fun w' => Blk w' (w.heap.size + 1) 26 (cellsOf c)) [14, 15, 16, 17, 18] (fun _ h => h) (by kernel_rfl) D3.out ?_
    simp only [List.filterMap_cons, List.filterMap_nil, List.getElem?_toArray, List.getElem?_cons_zero, List.getElem?_cons_succ]
    show wpQuiet _ _ _ _ [_, _, _, _, _] _
    iterate 5 (go_big_quiet_step ((intros; rfl)))
    refine wpQuiet_nil ?_
    refine headF_one (i := 19) (by kernel_rfl) (of_decide_eq_true (by kernel_rfl)) ?_
    refine wpOp_at rfl rfl (wp_store_mid _ _ _ rfl g (i * 7) (cellsV (mvS s)) rfl rfl F3.out.1 infoV (cellsV_one _) ?_)
    have D4 : Hid (Blk (w3.setCells g (i * 7) (cellsV (mvS s)).toList) (w.heap.size + 1) 26 (cellsOf c)) := Lib.hid (D3.out.kept (Kept.setCells _ _ _ (Kept.refl (fun k => k = g) w3) (.inl rfl)) (fun e => N3.out e.symm))
    have F4 : Hid ((w3.setCells g (i * 7) (cellsV (mvS s)).toList).there g (j * 7) 7 ∧ ((w3.setCells g (i * 7) (cellsV (mvS s)).toList).setCells g (j * 7) (cellsV (mvD s d)).toList).ownsRow 0 24 7 (.slice (some ⟨g, 0, none⟩) n cp) n (flat ((l.set i (mvS s)).set j (mvD s d))) ∧ Kept (fun k => k = g) w (w3.setCells g (i * 7) (cellsV (mvS s)).toList)) := Lib.hid (by rw [← HN.out]; exact ⟨F3.out.2.1, F3.out.2.2, Kept.setCells _ _ _ K3.out (.inl rfl)⟩)
    clear F3 K3 D3
    generalize w3.setCells g (i * 7) (cellsV (mvS s)).toList = w4 at *
    refine ⟨D4.out, ?_⟩
    simp only [Act.put, List.getElem_toArray, List.getElem_cons_zero, List.getElem_cons_succ, List.setIfInBounds_toArray, List.set_cons_zero, List.set_cons_succ]
    refine headF_takesW (f := 1) (fun w' => Blk w' (w.heap.size + 1) 26 (cellsOf c)) [20] (fun _ h => h) (by kernel_rfl) D4.out ?_
    simp only [List.filterMap_cons, List.filterMap_nil, List.getElem?_toArray, List.getElem?_cons_zero, List.getElem?_cons_succ]
    show wpQuiet _ _ _ _ [_] _
    iterate 1 (go_big_quiet_step ((intros; rfl)))
    refine wpQuiet_nil ?_
    refine headF_one (i := 21) (by kernel_rfl) (of_decide_eq_true (by kernel_rfl)) ?_
    refine wpOp_at rfl rfl (wp_store_mid _ _ _ rfl g (j * 7) (cellsV (mvD s d)) rfl rfl F4.out.1 infoV (cellsV_one _) ?_)
    refine ⟨D4.out.kept (Kept.setCells _ _ _ (Kept.refl (fun k => k = g) _) (.inl rfl)) (fun e => N3.out e.symm), ?_⟩
    simp only [Act.put, List.getElem_toArray, List.getElem_cons_zero, List.getElem_cons_succ, List.setIfInBounds_toArray, List.set_cons_zero, List.set_cons_succ]
    refine ⟨by kernel_rfl, ?_⟩
    refine NoPanic.normal ?_
    have Z : Hid ((w4.setCells g (j * 7) (cellsV (mvD s d)).toList).ownsRow 0 24 7 (.slice (some ⟨g, 0, none⟩) n cp) n (flat ((l.set i (mvS s)).set j (mvD s d))) ∧ Kept (fun k => k = g) w (w4.setCells g (j * 7) (cellsV (mvD s d)).toList)) := Lib.hid ⟨F4.out.2.1, Kept.setCells _ _ _ F4.out.2.2 (.inl rfl)⟩
    generalize w4.setCells g (j * 7) (cellsV (mvD s d)).toList = w5 at *
    go_wp2_with fail
    go_ret
    exact ⟨rfl, Z.out⟩
  · refine wpOp_at rfl rfl (wp_load_mid 24 _ rfl g (j * 7) rfl d.row _ R2.out.2.1 Try.underlying24 rfl infoV ?_)
    refine ⟨R2.out.2.2, ?_⟩
    simp only [Act.put, List.getElem_toArray, List.getElem_cons_zero, List.getElem_cons_succ, List.setIfInBounds_toArray, List.set_cons_zero, List.set_cons_succ]
    refine headF_one (i := 7) (by kernel_rfl) (of_decide_eq_true (by kernel_rfl)) ?_
    refine wpOp_at rfl rfl (wp_load_mid 24 _ rfl g (i * 7) rfl s.row _ R2.out.1 Try.underlying24 rfl infoV ?_)
    refine ⟨R2.out.2.2, ?_⟩
    simp only [Act.put, List.getElem_toArray, List.getElem_cons_zero, List.getElem_cons_succ, List.setIfInBounds_toArray, List.set_cons_zero, List.set_cons_succ]
    refine headF_one (i := 13) (by kernel_rfl) (of_decide_eq_true (by kernel_rfl)) ?_
    refine wpOp_at rfl rfl (wp_call_at rfl #[.agg (cellsV s), .agg (cellsV d), .agg (cellsOf c)] (by kernel_rfl) Try.call12 ((HA.out w2.drew).mono ?_))
    rintro e w3 ⟨rfl, b3⟩
    have D3 : Hid (Blk w3 (w.heap.size + 1) 26 (cellsOf c)) := Lib.hid (R2.out.2.2.below b3 R2.out.2.2.lt)
    have F3 : Hid (w3.there g (i * 7) 7 ∧ (w3.setCells g (i * 7) (cellsV (mvS s)).toList).there g (j * 7) 7 ∧ ((w3.setCells g (i * 7) (cellsV (mvS s)).toList).setCells g (j * 7) (cellsV (mvD s d)).toList).ownsRow 0 24 7 (.slice (some ⟨g, 0, none⟩) l.length cp) l.length (flat ((l.set i (mvS s)).set j (mvD s d)))) := Lib.hid (owns_move (owns_same O2.out (fun k hk => by simp only [Value.ownBlock, Option.some.injEq] at hk; subst hk; exact b3.block _ G2.out)) HIJ.out.1 HIJ.out.2.1 HIJ.out.2.2 _ _)
    have K3 : Hid (Kept (fun k => k = g) w w3) := Lib.hid (Kept.of_below (T2.out.2.2.drew.trans (b3.mono T2.out.2.2.size)))
    have N3 : Hid (g ≠ w.heap.size + 1) := Lib.hid (by omega)
    clear b3
    refine ⟨_, rfl, D3.out, ?_⟩
    simp only [Act.put, List.getElem_toArray, List.getElem_cons_zero, List.getElem_cons_succ, List.setIfInBounds_toArray, List.set_cons_zero, List.set_cons_succ]
    refine headF_takesW (f := 3) (fun w' => Blk w' (w.heap.size + 1) 26 (cellsOf c)) [14, 15, 16, 17, 18] (fun _ h => h) (by kernel_rfl) D3.out ?_
    simp only [List.filterMap_cons, List.filterMap_nil, List.getElem?_toArray, List.getElem?_cons_zero, List.getElem?_cons_succ]
    show wpQuiet _ _ _ _ [_, _, _, _, _] _
    iterate 5 (go_big_quiet_step ((intros; rfl)))
    refine wpQuiet_nil ?_
    refine headF_one (i := 19) (by kernel_rfl) (of_decide_eq_true (by kernel_rfl)) ?_
    refine wpOp_at rfl rfl (wp_store_mid _ _ _ rfl g (i * 7) (cellsV (mvS s)) rfl rfl F3.out.1 infoV (cellsV_one _) ?_)
    have D4 : Hid (Blk (w3.setCells g (i * 7) (cellsV (mvS s)).toList) (w.heap.size + 1) 26 (cellsOf c)) := Lib.hid (D3.out.kept (Kept.setCells _ _ _ (Kept.refl (fun k => k = g) w3) (.inl rfl)) (fun e => N3.out e.symm))
    have F4 : Hid ((w3.setCells g (i * 7) (cellsV (mvS s)).toList).there g (j * 7) 7 ∧ ((w3.setCells g (i * 7) (cellsV (mvS s)).toList).setCells g (j * 7) (cellsV (mvD s d)).toList).ownsRow 0 24 7 (.slice (some ⟨g, 0, none⟩) n cp) n (flat ((l.set i (mvS s)).set j (mvD s d))) ∧ Kept (fun k => k = g) w (w3.setCells g (i * 7) (cellsV (mvS s)).toList)) := Lib.hid (by rw [← HN.out]; exact ⟨F3.out.2.1, F3.out.2.2, Kept.setCells _ _ _ K3.out (.inl rfl)⟩)
    clear F3 K3 D3
    generalize w3.setCells g (i * 7) (cellsV (mvS s)).toList = w4 at *
    refine ⟨D4.out, ?_⟩
    simp only [Act.put, List.getElem_toArray, List.getElem_cons_zero, List.getElem_cons_succ, List.setIfInBounds_toArray, List.set_cons_zero, List.set_cons_succ]
    refine headF_takesW (f := 1) (fun w' => Blk w' (w.heap.size + 1) 26 (cellsOf c)) [20] (fun _ h => h) (by kernel_rfl) D4.out ?_
    simp only [List.filterMap_cons, List.filterMap_nil, List.getElem?_toArray, List.getElem?_cons_zero, List.getElem?_cons_succ]
    show wpQuiet _ _ _ _ [_] _
    iterate 1 (go_big_quiet_step ((intros; rfl)))
    refine wpQuiet_nil ?_
    refine headF_one (i := 21) (by kernel_rfl) (of_decide_eq_true (by kernel_rfl)) ?_
    refine wpOp_at rfl rfl (wp_store_mid _ _ _ rfl g (j * 7) (cellsV (mvD s d)) rfl rfl F4.out.1 infoV (cellsV_one _) ?_)
    refine ⟨D4.out.kept (Kept.setCells _ _ _ (Kept.refl (fun k => k = g) _) (.inl rfl)) (fun e => N3.out e.symm), ?_⟩
    simp only [Act.put, List.getElem_toArray, List.getElem_cons_zero, List.getElem_cons_succ, List.setIfInBounds_toArray, List.set_cons_zero, List.set_cons_succ]
    refine ⟨by kernel_rfl, ?_⟩
    refine NoPanic.normal ?_
    have Z : Hid ((w4.setCells g (j * 7) (cellsV (mvD s d)).toList).ownsRow 0 24 7 (.slice (some ⟨g, 0, none⟩) n cp) n (flat ((l.set i (mvS s)).set j (mvD s d))) ∧ Kept (fun k => k = g) w (w4.setCells g (j * 7) (cellsV (mvD s d)).toList)) := Lib.hid ⟨F4.out.2.1, Kept.setCells _ _ _ F4.out.2.2 (.inl rfl)⟩
    generalize w4.setCells g (j * 7) (cellsV (mvD s d)).toList = w5 at *
    go_wp2_with fail
    go_ret
    exact ⟨rfl, Z.out⟩
theorem perform_any (a : Option Addr) (l : List Val) (cp : Nat) (p : Int × Int) (c : Nat → Int) (w : World) (hO : w.ownsRow 0 24 7 (.slice a l.length cp) l.length (flat l)) (hf : ∀ v ∈ l, FitsV v) :
    Calls Try.prog 33 #[.agg (cellsP p), .slice a l.length cp, .agg (cellsOf c)] w fun e w' => e = .returned (.bool (decide (reqM l p (c 6) = 0))) ∧
      w'.ownsRow 0 24 7 (.slice a l.length cp) l.length (flat (stepOne l p (c 6))) ∧ Kept (fun k => (Value.slice a l.length cp).ownBlock = some k) w w' := by
  by_cases h : reqM l p (c 6) = 0
  · rw [decide_eq_true h, show stepOne l p (c 6) = moveL l p.1.toNat p.2.toNat from if_pos h]
    obtain ⟨i, j, s, d, rfl, hne, hi, hj, hk⟩ := req_in h
    have hil := (List.getElem?_eq_some_iff.1 hi).1
    simp only [moveL, Int.toNat_natCast, getD_of hi, getD_of hj]
    obtain ⟨g, rfl⟩ : ∃ g, a = some ⟨g, 0, none⟩ := by
      rcases hO.2 with ⟨_, h0⟩ | ⟨g, cp', cur, h1, _⟩
      · omega
      · injection h1 with h1 _ _
        exact ⟨g, h1⟩
    exact (perform_ok g l cp i j s d c w hO hf hi hj hne hk).mono fun e w' ⟨he, ho, k⟩ => ⟨he, ho, k.more (fun i _ e => by subst e; rfl)⟩
  · rw [decide_eq_false h, show stepOne l p (c 6) = l from if_neg h]
    exact (perform_no (fun _ => False) a l cp p c w (owns_lst hO (fun _ _ h => h)) hf h).mono fun e w' ⟨he, hb⟩ => ⟨he, owns_same hO (fun k hk => hb.block k (hO.lt k hk).2), Kept.of_below hb⟩
end Go.Proofs.Ytnaheindlkehhaa
