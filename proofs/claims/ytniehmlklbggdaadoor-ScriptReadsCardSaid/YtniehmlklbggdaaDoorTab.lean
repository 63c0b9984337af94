/- operands(): the map that holds each kind's operands. -/
import Derived.Test.YtniehmlklbggdaaDoorOd
import Derived.Deep.CutRange
namespace Go.Proofs.YtniehmlklbggdaaDoor
open Go Go.RowKit Go.Maps
set_option linter.unusedVariables false
set_option linter.unusedSimpArgs false
set_option maxRecDepth 100000

section
variable {P : Program} {ops : Array Oper} {rest : List Oper} {o : Oper} {a : Act} {w : World} {Q : Exit → Act → World → Prop}
theorem wpList_makeMap (hgd : o.guard = none) (t : TypeId) (ho : o.op = .makeMap t none) (h : wpList P ops Q rest (a.put o.dst (.map (some w.heap.size))) (w.alloc (.map #[] 0))) : wpList P ops Q (o :: rest) a w :=
  wpList_plain hgd fun _ hK => wp_makeMap t ho (hK _ _ h)
/-- 'm[k]', one value. -/
theorem TabAt.lookup1 {b : Nat} {L : List (Value × Value)} {t k e : TypeId} (h : TabAt w b L) (K : Keyed P k) (ht : P.underlying t = some (.map k e)) {z : Value} (hz : (zeroValue e).run P w = .ok z w) (hall : ∀ p ∈ L, ∃ l, keyOf P k p.1 = some l) {key : Value} {kl : Lit} (hkey : keyOf P k key = some kl) :
    (∃ v, (key, v) ∈ L ∧ (Instr.lookup t (.map (some b)) key false).run P w = .ok v w) ∨ ((∀ p ∈ L, p.1 ≠ key) ∧ (Instr.lookup t (.map (some b)) key false).run P w = .ok z w) := by
  obtain ⟨es, clock, hb, hp⟩ := h
  rcases K.find w hkey es.toList (TabAt.keys hp hall) with ⟨h1, h2⟩ | ⟨j, e0, h1, h2, h3⟩
  · refine .inr ⟨fun p hp' e => ?_, by simp [Instr.lookup, run_underlying ht, MapKept.run_getObj_map hb, K.check w _ hkey, h1, hz, Result.andThen]⟩
    obtain ⟨x, hx, rfl⟩ := List.mem_map.1 (hp.mem_iff.2 hp')
    exact h2 x hx e
  · refine .inl ⟨e0.val, hp.mem_iff.1 (List.mem_map.2 ⟨e0, List.mem_of_getElem? h2, by rw [h3]⟩), by simp [Instr.lookup, run_underlying ht, MapKept.run_getObj_map hb, K.check w _ hkey, h1, Result.andThen]⟩
end

/-- A slice of operands that reads as l; its block is not b. -/
def OdsAt (w : World) (b : Nat) (a : Option Addr) (l : List Od) : Prop := LstR Od.row 3 w (fun i => i = b) a l
/-- The entries M are those of E. -/
def Ents (w : World) (b : Nat) (M : List (Value × Value)) (E : List (Int × List Od)) : Prop :=
  (∀ p ∈ M, ∃ x ∈ E, p.1 = .int .i64 x.1 ∧ (Lit.int .i64 x.1).wf = true ∧ ∃ a, p.2 = .slice a x.2.length x.2.length ∧ OdsAt w b a x.2) ∧ ∀ x ∈ E, ∃ p ∈ M, p.1 = .int .i64 x.1
structure Laid (w0 : World) (h b : Nat) (w : World) (E : List (Int × List Od)) : Prop where
  old : w0.heap.size ≤ h ∧ h + 2 < b
  below : Below w0.heap.size w0 w
  ix : Blk w h 86 (cellsOd .ix)
  tg : Blk w (h + 1) 86 (cellsOd .tg)
  am : Blk w (h + 2) 86 (cellsOd .am)
  tab : ∃ M, TabAt w b M ∧ Ents w b M E
section
variable {w0 w w' : World} {h b : Nat} {E : List (Int × List Od)} {a : Option Addr} {l : List Od}
theorem Ents.below {M : List (Value × Value)} (H : Ents w b M E) (hb : Kept (fun i => i = b) w w') : Ents w' b M E :=
  ⟨fun p hp => by
    obtain ⟨x, hx, e1, e2, a, e3, e4⟩ := H.1 p hp
    exact ⟨x, hx, e1, e2, a, e3, e4.kept hb⟩, H.2⟩
theorem ents_keys {M : List (Value × Value)} (H : Ents w b M E) : ∀ p ∈ M, ∃ l, keyOf Tryd.prog 3 p.1 = some l := fun p hp => by
  obtain ⟨x, hx, e1, e2, _⟩ := H.1 p hp
  exact ⟨_, by rw [e1]; exact keyOf_int_mk Tryd.underlying3 e2⟩
theorem Laid.alloc (H : Laid w0 h b w E) (o : Obj) : Laid w0 h b (w.alloc o) E := by
  obtain ⟨M, h1, h2⟩ := H.tab
  exact ⟨H.old, H.below.alloc H.below.size _, H.ix.alloc _, H.tg.alloc _, H.am.alloc _, M, h1.below ((Below.refl _ _).alloc (Nat.le_refl _) _) h1.lt, h2.below ((Kept.refl _ _).alloc _)⟩
theorem Laid.lt (H : Laid w0 h b w E) : b < w.heap.size := by
  obtain ⟨M, h1, _⟩ := H.tab
  exact h1.lt
theorem odsAt_new (H : Laid w0 h b w E) (l : List Od) : OdsAt (w.alloc (.cells (flatR Od.row l).toArray 86)) b (some ⟨w.heap.size, 0, none⟩) l := fun h0 =>
  ⟨w.heap.size, 0, rfl, by have := H.lt; omega, by simp, fun i v hi => rangeR_of_flat Od.row_len (fun j u hu => by
    have := newR_cells w 86 (flatR Od.row l) j u hu
    rwa [add_plain] at this) hi⟩
theorem od_app : ∃ i, Tryd.prog.info? 86 = some i ∧ i.size = 3 ∧ i.zero = some (.agg #[.int .i64 0, .nilFunc, .nilFunc]) := by
  have h : (Tryd.prog.info? 86).map (fun i => (i.size, i.zero)) = some (3, some (.agg #[.int .i64 0, .nilFunc, .nilFunc])) := by kernel_rfl
  cases hi : Tryd.prog.info? 86 with
  | none => rw [hi] at h; cases h
  | some i =>
    rw [hi] at h
    simp at h
    exact ⟨i, rfl, h.1, h.2⟩
theorem run_od0 (w : World) : (Instr.buildSlice 80 0 #[]).run Tryd.prog w = .ok (.slice (some ⟨w.heap.size, 0, none⟩) 0 0) (w.alloc (.cells (flatR Od.row []).toArray 86)) := by
  obtain ⟨i, hi, _⟩ := od_app
  exact run_buildSlice_zero w _ _ i Tryd.underlying80 hi
theorem run_od1 (d : Od) (w : World) : (Instr.buildSlice 80 1 #[(0, .agg (cellsOd d))]).run Tryd.prog w = .ok (.slice (some ⟨w.heap.size, 0, none⟩) 1 1) (w.alloc (.cells (flatR Od.row [d]).toArray 86)) := by
  obtain ⟨i, hi, hs, hz⟩ := od_app
  simp [Instr.buildSlice, run_underlying Tryd.underlying80, sizeOf, typeInfo, hi, hz, hs, Instr.fill, newRow, go_sem, cellsOd, Od.row, flatR]
theorem run_od2 (d d' : Od) (w : World) : (Instr.buildSlice 80 2 #[(0, .agg (cellsOd d)), (1, .agg (cellsOd d'))]).run Tryd.prog w = .ok (.slice (some ⟨w.heap.size, 0, none⟩) 2 2) (w.alloc (.cells (flatR Od.row [d, d']).toArray 86)) := by
  obtain ⟨i, hi, hs, hz⟩ := od_app
  simp [Instr.buildSlice, run_underlying Tryd.underlying80, sizeOf, typeInfo, hi, hz, hs, Instr.fill, newRow, go_sem, cellsOd, Od.row, flatR]
section
variable {ops : Array Oper} {rest : List Oper} {o : Oper} {c : Act} {Q : Exit → Act → World → Prop}
theorem arm_od0 (H : Laid w0 h b w E) (hgd : o.guard = none) (ho : o.op = .buildSlice 80 0 #[])
    (K : ∀ g w', Laid w0 h b w' E → OdsAt w' b (some g) [] → wpList Tryd.prog ops Q rest (c.put o.dst (.slice (some g) 0 0)) w') : wpList Tryd.prog ops Q (o :: rest) c w :=
  wpList_plain hgd fun _ hK => by
    unfold Oper.wp execOp
    simp only [ho, List.map_toArray, List.map_nil, Sem.run_bind, run_od0 w, Result.andThen_ok, Sem.run_pure]
    exact hK _ _ (K _ _ (H.alloc _) (odsAt_new H []))
theorem arm_od1 (H : Laid w0 h b w E) (hgd : o.guard = none) (x : Operand) (d : Od) (ho : o.op = .buildSlice 80 1 #[(0, x)]) (hx : c.eval x = .agg (cellsOd d))
    (K : ∀ g w', Laid w0 h b w' E → OdsAt w' b (some g) [d] → wpList Tryd.prog ops Q rest (c.put o.dst (.slice (some g) 1 1)) w') : wpList Tryd.prog ops Q (o :: rest) c w :=
  wpList_plain hgd fun _ hK => by
    unfold Oper.wp execOp
    simp only [ho, List.map_toArray, List.map_cons, List.map_nil, hx, Sem.run_bind, run_od1 d w, Result.andThen_ok, Sem.run_pure]
    exact hK _ _ (K _ _ (H.alloc _) (odsAt_new H [d]))
theorem arm_od2 (H : Laid w0 h b w E) (hgd : o.guard = none) (x y : Operand) (d d' : Od) (ho : o.op = .buildSlice 80 2 #[(0, x), (1, y)]) (hx : c.eval x = .agg (cellsOd d)) (hy : c.eval y = .agg (cellsOd d'))
    (K : ∀ g w', Laid w0 h b w' E → OdsAt w' b (some g) [d, d'] → wpList Tryd.prog ops Q rest (c.put o.dst (.slice (some g) 2 2)) w') : wpList Tryd.prog ops Q (o :: rest) c w :=
  wpList_plain hgd fun _ hK => by
    unfold Oper.wp execOp
    simp only [ho, List.map_toArray, List.map_cons, List.map_nil, hx, hy, Sem.run_bind, run_od2 d d' w, Result.andThen_ok, Sem.run_pure]
    exact hK _ _ (K _ _ (H.alloc _) (odsAt_new H [d, d']))
theorem arm_load (hgd : o.guard = none) (x : Operand) (g : Nat) (d : Od) (hB : Blk w g 86 (cellsOd d)) (ho : o.op = .load 86 x) (hx : c.eval x = .pointer (some ⟨g, 0, none⟩))
    (K : wpList Tryd.prog ops Q rest (c.put o.dst (.agg (cellsOd d))) w) : wpList Tryd.prog ops Q (o :: rest) c w :=
  wpList_load_row hgd 86 _ ho g hx 86 (cellsOd d) (0, 0) _ hB Tryd.underlying86 rfl infoOd K
theorem arm_insert (H : Laid w0 h b w E) {g : Option Addr} {l : List Od} (S : OdsAt w b g l) (hgd : o.guard = none) (hd : o.dst = none) (m x v : Operand) (k : Int) (n : Nat) (ho : o.op = .insert 81 m x v) (hm : c.eval m = .map (some b)) (hx : c.eval x = .int .i64 k) (hv : c.eval v = .slice g n n) (hn : l.length = n)
    (hk : (Lit.int .i64 k).wf = true) (hne : ∀ y ∈ E, y.1 ≠ k)
    (K : ∀ w', Laid w0 h b w' ((k, l) :: E) → wpList Tryd.prog ops Q rest c w') : wpList Tryd.prog ops Q (o :: rest) c w :=
  wpList_plain hgd fun _ hK => by
    subst hn
    obtain ⟨M, hT, hE⟩ := H.tab
    refine wp_insert hT (int_keyed Tryd.underlying3) m x v ho hd _ _ hm hx hv Tryd.underlying81 (ents_keys hE) (keyOf_int_mk Tryd.underlying3 hk) (fun p hp e => ?_) (fun w' hT' hg => hK _ _ (K w' ?_))
    · obtain ⟨y, hy, e1, _⟩ := hE.1 p hp
      rw [e1] at e
      injection e with _ e
      exact hne y hy e
    · have hkept : Kept (fun i => i = b) w w' := Kept.of_grown hg fun i hi => by injection hi
      have ho2 := H.old
      have hE' := hE.below hkept
      refine ⟨H.old, H.below.grown hg H.below.size (fun i hi => by injection hi with hi; omega), H.ix.grown hg (by simp; omega), H.tg.grown hg (by simp; omega), H.am.grown hg (by simp; omega), _, hT', ⟨fun p hp => ?_, fun y hy => ?_⟩⟩
      · rcases List.mem_cons.1 hp with rfl | hp
        · exact ⟨(k, l), by simp, rfl, hk, g, rfl, S.kept hkept⟩
        · obtain ⟨y, hy, r⟩ := hE'.1 p hp
          exact ⟨y, List.mem_cons_of_mem _ hy, r⟩
      · rcases List.mem_cons.1 hy with rfl | hy
        · exact ⟨_, List.mem_cons_self, rfl⟩
        · obtain ⟨p, hp, r⟩ := hE'.2 y hy
          exact ⟨p, List.mem_cons_of_mem _ hp, r⟩
end

def kinds7 : List (Int × List Od) := [(7, []), (6, [.ix, .am]), (5, [.ix, .tg]), (4, [.ix]), (3, [.ix]), (2, [.ix]), (1, [.am])]
/-- Block b is the table of operands. -/
def OpsAt (w : World) (b : Nat) : Prop := ∃ M, TabAt w b M ∧ Ents w b M kinds7
theorem Laid.start {W : World} (b1 : Below w0.heap.size w0 W) (h1 : Blk W h 86 (cellsOd .ix)) (h2 : Blk W (h + 1) 86 (cellsOd .tg)) (h3 : Blk W (h + 2) 86 (cellsOd .am)) (hs : h + 2 < W.heap.size) (h0 : w0.heap.size ≤ h) :
    Laid w0 h W.heap.size (W.alloc (.map #[] 0)) [] :=
  ⟨⟨h0, hs⟩, b1.alloc b1.size _, h1.alloc _, h2.alloc _, h3.alloc _, [], tabAt_made W, fun p hp => (by cases hp), fun x hx => (by cases hx)⟩
theorem laid_three (w : World) : Laid w w.heap.size (((w.alloc (.cells (cellsOd .ix) 86)).alloc (.cells (cellsOd .tg) 86)).alloc (.cells (cellsOd .am) 86)).heap.size
    ((((w.alloc (.cells (cellsOd .ix) 86)).alloc (.cells (cellsOd .tg) 86)).alloc (.cells (cellsOd .am) 86)).alloc (.map #[] 0)) [] := by
  have h1 := Blk.new w 86 (cellsOd .ix)
  have b1 : Below w.heap.size w (w.alloc (.cells (cellsOd .ix) 86)) := (Below.refl _ _).alloc (Nat.le_refl _) _
  have e1 : (w.alloc (.cells (cellsOd .ix) 86)).heap.size = w.heap.size + 1 := by simp
  generalize w.alloc (.cells (cellsOd .ix) 86) = u1 at *
  have h2 := Blk.new u1 86 (cellsOd .tg)
  have b2 := b1.alloc b1.size (.cells (cellsOd .tg) 86)
  have h1' := h1.alloc (.cells (cellsOd .tg) 86)
  have e2 : (u1.alloc (.cells (cellsOd .tg) 86)).heap.size = w.heap.size + 2 := by simp [e1]
  rw [e1] at h2
  clear h1 b1
  generalize u1.alloc (.cells (cellsOd .tg) 86) = u2 at *
  have h3 := Blk.new u2 86 (cellsOd .am)
  rw [e2] at h3
  exact Laid.start (b2.alloc b2.size _) (h1'.alloc _) (h2.alloc _) h3 (by simp [e2]) (Nat.le_refl _)
set_option maxHeartbeats 1600000 in
theorem operands_any (w : World) : Calls Tryd.prog 55 #[] w fun e w' => ∃ b, e = .returned (.map (some b)) ∧ OpsAt w' b ∧ w.heap.size ≤ b ∧ Below w.heap.size w w' := by
  have L0 := laid_three w
  have hb0 := L0.lt
  go_enter Tryd.func55, Tryd.ntmps55
  go_upto_region 4 with (fail)
  have E1 : #[Value.int .i64 2, .func (.func 68) #[] #[], .func (.func 69) #[] #[]] = cellsOd .ix := rfl
  have E2 : #[Value.int .i64 2, .func (.func 70) #[] #[], .func (.func 71) #[] #[]] = cellsOd .tg := rfl
  have E3 : #[Value.int .i64 8, .func (.func 72) #[] #[], .func (.func 73) #[] #[]] = cellsOd .am := rfl
  rw [E1, E2, E3]
  clear E1 E2 E3
  generalize ((w.alloc (.cells (cellsOd .ix) 86)).alloc (.cells (cellsOd .tg) 86)).alloc (.cells (cellsOd .am) 86) = W at *
  refine Go.wp_region_list ?_
  refine wpList_makeMap rfl 81 rfl ?_
  generalize W.heap.size = b at *
  generalize W.alloc (.map #[] 0) = W1 at *
  simp only [Act.put, List.setIfInBounds_toArray, List.set_cons_zero, List.set_cons_succ]
  refine arm_load rfl _ _ _ L0.am rfl rfl ?_
  simp only [Act.put, List.setIfInBounds_toArray, List.set_cons_zero, List.set_cons_succ]
  refine arm_od1 L0 rfl _ _ rfl rfl ?_
  intro g1 w1 L1 S1
  clear L0
  simp only [Act.put, List.setIfInBounds_toArray, List.set_cons_zero, List.set_cons_succ]
  refine arm_insert L1 S1 rfl rfl _ _ _ _ _ rfl rfl rfl rfl rfl (by decide) (by simp) ?_
  intro w2 L2
  clear L1 S1
  refine arm_load rfl _ _ _ L2.ix rfl rfl ?_
  simp only [Act.put, List.setIfInBounds_toArray, List.set_cons_zero, List.set_cons_succ]
  refine arm_od1 L2 rfl _ _ rfl rfl ?_
  intro g3 w3 L3 S3
  clear L2
  simp only [Act.put, List.setIfInBounds_toArray, List.set_cons_zero, List.set_cons_succ]
  refine arm_insert L3 S3 rfl rfl _ _ _ _ _ rfl rfl rfl rfl rfl (by decide) (by simp) ?_
  intro w4 L4
  clear L3 S3
  refine arm_load rfl _ _ _ L4.ix rfl rfl ?_
  simp only [Act.put, List.setIfInBounds_toArray, List.set_cons_zero, List.set_cons_succ]
  refine arm_od1 L4 rfl _ _ rfl rfl ?_
  intro g5 w5 L5 S5
  clear L4
  simp only [Act.put, List.setIfInBounds_toArray, List.set_cons_zero, List.set_cons_succ]
  refine arm_insert L5 S5 rfl rfl _ _ _ _ _ rfl rfl rfl rfl rfl (by decide) (by simp) ?_
  intro w6 L6
  clear L5 S5
  refine arm_load rfl _ _ _ L6.ix rfl rfl ?_
  simp only [Act.put, List.setIfInBounds_toArray, List.set_cons_zero, List.set_cons_succ]
  refine arm_od1 L6 rfl _ _ rfl rfl ?_
  intro g7 w7 L7 S7
  clear L6
  simp only [Act.put, List.setIfInBounds_toArray, List.set_cons_zero, List.set_cons_succ]
  refine arm_insert L7 S7 rfl rfl _ _ _ _ _ rfl rfl rfl rfl rfl (by decide) (by simp) ?_
  intro w8 L8
  clear L7 S7
  refine arm_load rfl _ _ _ L8.ix rfl rfl ?_
  simp only [Act.put, List.setIfInBounds_toArray, List.set_cons_zero, List.set_cons_succ]
  refine arm_load rfl _ _ _ L8.tg rfl rfl ?_
  simp only [Act.put, List.setIfInBounds_toArray, List.set_cons_zero, List.set_cons_succ]
  refine arm_od2 L8 rfl _ _ _ _ rfl rfl rfl ?_
  intro g9 w9 L9 S9
  clear L8
  simp only [Act.put, List.setIfInBounds_toArray, List.set_cons_zero, List.set_cons_succ]
  refine arm_insert L9 S9 rfl rfl _ _ _ _ _ rfl rfl rfl rfl rfl (by decide) (by simp) ?_
  intro w10 L10
  clear L9 S9
  refine arm_load rfl _ _ _ L10.ix rfl rfl ?_
  simp only [Act.put, List.setIfInBounds_toArray, List.set_cons_zero, List.set_cons_succ]
  refine arm_load rfl _ _ _ L10.am rfl rfl ?_
  simp only [Act.put, List.setIfInBounds_toArray, List.set_cons_zero, List.set_cons_succ]
  refine arm_od2 L10 rfl _ _ _ _ rfl rfl rfl ?_
  intro g11 w11 L11 S11
  clear L10
  simp only [Act.put, List.setIfInBounds_toArray, List.set_cons_zero, List.set_cons_succ]
  refine arm_insert L11 S11 rfl rfl _ _ _ _ _ rfl rfl rfl rfl rfl (by decide) (by simp) ?_
  intro w12 L12
  clear L11 S11
  refine arm_od0 L12 rfl rfl ?_
  intro g13 w13 L13 S13
  clear L12
  simp only [Act.put, List.setIfInBounds_toArray, List.set_cons_zero, List.set_cons_succ]
  refine arm_insert L13 S13 rfl rfl _ _ _ _ _ rfl rfl rfl rfl rfl (by decide) (by simp) ?_
  intro w14 L14
  clear L13 S13
  have L := Lib.hid L14
  clear L14 hb0
  go_wp2_with (fail)
  go_ret
  exact ⟨b, rfl, L.out.tab, by have := L.out.old; omega, L.out.below⟩

end
section
variable {w w' : World} {b : Nat} {k : Int} {l : List Od}
theorem OpsAt.below (h : OpsAt w b) (hb : Below w.heap.size w w') : OpsAt w' b := by
  obtain ⟨M, h1, h2⟩ := h
  exact ⟨M, h1.below hb h1.lt, h2.below ⟨hb.os, hb.tape, hb.output, hb.size, fun i hi _ => hb.block i hi⟩⟩
theorem OpsAt.drewN (h : OpsAt w b) (n : Nat) : OpsAt (w.drewN n) b := h
theorem kinds7_ods : ∀ x ∈ kinds7, ods x.1 = some x.2 := by decide
theorem ods_kinds7 (h : ods k = some l) : (k, l) ∈ kinds7 := by
  rcases ods_cases k with ⟨rfl, e⟩ | ⟨rfl, e⟩ | ⟨rfl, e⟩ | ⟨rfl, e⟩ | ⟨rfl, e⟩ | ⟨rfl, e⟩ | ⟨rfl, e⟩ | ⟨_, e⟩
  all_goals
    rw [h] at e
    first
      | (injection e with e; subst e; decide)
      | cases e
theorem zeroOds (w : World) : (zeroValue 80).run Tryd.prog w = .ok (.slice none 0 0) w := by kernel_rfl
/-- A slice that reads as l (nowhere asked to lie apart). -/
def OdL (w : World) (a : Option Addr) (l : List Od) : Prop := LstR Od.row 3 w (fun _ => False) a l
theorem OdL.below {a : Option Addr} (h : OdL w a l) (hb : Below w.heap.size w w') : OdL w' a l := LstR.below h hb
theorem OpsAt.yes (h : OpsAt w b) (hk : ods k = some l) : (∃ a, OdL w a l ∧ (Instr.lookup 81 (.map (some b)) (.int .i64 k) true).run Tryd.prog w = .ok (.tuple #[.slice a l.length l.length, .bool true]) w) ∧
    ∃ a, OdL w a l ∧ (Instr.lookup 81 (.map (some b)) (.int .i64 k) false).run Tryd.prog w = .ok (.slice a l.length l.length) w := by
  obtain ⟨M, h1, h2⟩ := h
  have hwf : (Lit.int .i64 k).wf = true := WalkArith.wf_i64 (by have := ods_some hk; omega)
  have hkey := keyOf_int_mk (P := Tryd.prog) Tryd.underlying3 hwf
  have K := int_keyed (P := Tryd.prog) Tryd.underlying3
  have hin : ∀ v, (Value.int .i64 k, v) ∈ M → ∃ a, v = .slice a l.length l.length ∧ OdL w a l := fun v hv => by
    obtain ⟨x, hx, e1, _, a, e3, e4⟩ := h2.1 _ hv
    injection e1 with _ e1
    have := kinds7_ods x hx
    rw [← e1, hk] at this
    injection this with this
    subst this
    exact ⟨a, e3, LstR.more e4 fun i _ hf => hf.elim⟩
  obtain ⟨p, hp, hpk⟩ := h2.2 _ (ods_kinds7 hk)
  rcases h1.lookup K Tryd.underlying81 (zeroOds w) (ents_keys h2) hkey with ⟨v, hv, hr⟩ | ⟨hne, _⟩
  · obtain ⟨a, rfl, hl⟩ := hin v hv
    rcases h1.lookup1 K Tryd.underlying81 (zeroOds w) (ents_keys h2) hkey with ⟨v', hv', hr'⟩ | ⟨hne, _⟩
    · obtain ⟨a', rfl, hl'⟩ := hin v' hv'
      exact ⟨⟨a, hl, hr⟩, a', hl', hr'⟩
    · exact absurd hpk (hne p hp)
  · exact absurd hpk (hne p hp)
theorem OpsAt.no (h : OpsAt w b) (hwf : (Lit.int .i64 k).wf = true) (hk : ods k = none) : (Instr.lookup 81 (.map (some b)) (.int .i64 k) true).run Tryd.prog w = .ok (.tuple #[.slice none 0 0, .bool false]) w := by
  obtain ⟨M, h1, h2⟩ := h
  have hkey := keyOf_int_mk (P := Tryd.prog) Tryd.underlying3 hwf
  rcases h1.lookup (int_keyed Tryd.underlying3) Tryd.underlying81 (zeroOds w) (ents_keys h2) hkey with ⟨v, hv, hr⟩ | ⟨_, hr⟩
  · obtain ⟨x, hx, e1, _⟩ := h2.1 _ hv
    injection e1 with _ e1
    have := kinds7_ods x hx
    rw [← e1, hk] at this
    cases this
  · exact hr
end
end Go.Proofs.YtniehmlklbggdaaDoor
