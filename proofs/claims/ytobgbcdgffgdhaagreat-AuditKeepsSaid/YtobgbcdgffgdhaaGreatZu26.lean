/- The Go function egress/egresslaw24.AuditKeeps returns true for every input, and leaves its arguments as they were. Conditions: none but the statement's own. -/
import Derived.Test.YtobgbcdgffgdhaaGreatZu02
import Derived.Test.YtobgbcdgffgdhaaGreatZu25
import Derived.ShutString
namespace Go.Proofs.YtobgbcdgffgdhaaGreat
set_option linter.unusedVariables false
set_option linter.unusedSimpArgs false
section
open Go Go.RowKit Go.Deep
set_option maxRecDepth 100000
def four (w : World) (g : Nat) (u v x y : Value) : World := (((w.setCell ⟨g, 2, none⟩ u).setCell ⟨g, 7, none⟩ v).setCell ⟨g, 8, none⟩ x).setCell ⟨g, 9, none⟩ y
theorem four_kept (w : World) (g : Nat) (u v x y : Value) : Kept (fun i => i = g) w (four w g u v x y) := by
 have h1 : Kept (fun i => i = g) w (w.setCell ⟨g, 2, none⟩ u) := Kept.setCell (S := fun i => i = g) (Kept.refl _ w) (p := ⟨g, 2, none⟩) (.inl rfl) u
 have h2 : Kept (fun i => i = g) w ((w.setCell ⟨g, 2, none⟩ u).setCell ⟨g, 7, none⟩ v) := Kept.setCell (S := fun i => i = g) h1 (p := ⟨g, 7, none⟩) (.inl rfl) v
 have h3 : Kept (fun i => i = g) w (((w.setCell ⟨g, 2, none⟩ u).setCell ⟨g, 7, none⟩ v).setCell ⟨g, 8, none⟩ x) := Kept.setCell (S := fun i => i = g) h2 (p := ⟨g, 8, none⟩) (.inl rfl) x
 exact Kept.setCell (S := fun i => i = g) h3 (p := ⟨g, 9, none⟩) (.inl rfl) y
theorem four_blk {w : World} {g t : Nat} {cs : Array Value} (h : Blk w g t cs) (u v x y : Value) : Blk (four w g u v x y) g t ((((cs.setIfInBounds 2 u).setIfInBounds 7 v).setIfInBounds 8 x).setIfInBounds 9 y) := by
 have h1 := h.set_ 2 u
 have h2 := h1.set_ 7 v
 have h3 := h2.set_ 8 x
 exact h3.set_ 9 y
theorem four_far {w : World} {g b t : Nat} {cs : Array Value} (h : Blk w b t cs) (hne : b ≠ g) (u v x y : Value) : Blk (four w g u v x y) b t cs := by
 have h1 := Blk.far (p := ⟨g, 2, none⟩) h hne u
 have h2 := Blk.far (p := ⟨g, 7, none⟩) h1 hne v
 have h3 := Blk.far (p := ⟨g, 8, none⟩) h2 hne x
 exact Blk.far (p := ⟨g, 9, none⟩) h3 hne y
theorem four_below {w0 w : World} {n g : Nat} (h : Below n w0 w) (hg : n ≤ g) (u v x y : Value) : Below n w0 (four w g u v x y) := by
 have h1 : Below n w0 (w.setCell ⟨g, 2, none⟩ u) := h.setCell hg u
 have h2 : Below n w0 ((w.setCell ⟨g, 2, none⟩ u).setCell ⟨g, 7, none⟩ v) := h1.setCell hg v
 have h3 : Below n w0 (((w.setCell ⟨g, 2, none⟩ u).setCell ⟨g, 7, none⟩ v).setCell ⟨g, 8, none⟩ x) := h2.setCell hg x
 exact h3.setCell hg y
theorem keep_cells (x : Sx) (b1 b2 b3 b4 : Option Addr) (k1 k2 k3 k4 n2 n3 n4 : Nat) : ((((cellsSx x).setIfInBounds 2 (.slice b1 x.vn k1)).setIfInBounds 7 (.slice b2 n2 k2)).setIfInBounds 8 (.slice b3 n3 k3)).setIfInBounds 9 (.slice b4 n4 k4) = cellsSx { x with va := b1, vc := k1, pa := b2, pn := n2, pc := k2, fa := b3, fn := n3, fc := k3, wa := b4, wn := n4, wc := k4 } := by
 simp [cellsSx, Sx.row]
set_option maxHeartbeats 6400000 in
theorem walk_AuditKeeps (a0 : Sx) (a1 : Nat → Int) (w : World) (w0 : FitsSx w a0) (w1 : Fits a1) :
  CallB 8 #[.agg (cellsSx a0), .agg (cellsOf a1)] w (.bool true) := by
 obtain ⟨V, pd, F, W, hs⟩ := w0
 have T0 := Lib.hid (SC.new w a0 a1)
 have HV := Lib.hid alive24
 have HCK := Lib.hid (refCheck_any a1)
 have HFW := Lib.hid (few_call hs)
 have HSX := Lib.hid (And.intro hs w1)
 clear hs w1
 by_cases hc : chk a1 = 0
 ·have dc : (chk a1 != 0) = false := by simp [hc]
  have HC := Lib.hid hc
  rw [hc] at HCK
  clear hc dc
  cases hq : fewS a0 V with
  | true =>
   have HAU := Lib.hid (au_of HSX.out.1 HSX.out.2 HC.out hq)
   have HQ := Lib.hid hq
   rw [hq] at HFW
   clear hq
   go_enter Tryz.func8, Tryz.ntmps8
   go_upto_region 1 with (fail)
   generalize (w.alloc (.cells (cellsSx a0) 28)).alloc (.cells (cellsOf a1) 30) = W0 at *
   go_wp2_with (first | (refine wlr 30 (w.heap.size + 1) T0.out.2.1 Tryz.underlying30 infoCf ?_))
   refine (HCK.out _).mono ?_
   rintro e z1 ⟨rfl, hb⟩
   have T1 := Lib.hid (T0.out.next hb)
   clear hb T0
   go_wp2_with (first | (refine wpList_load_rowG rfl 28 _ rfl w.heap.size rfl 28 _ (0, 0) _ T1.out.1 Tryz.underlying28 rfl infoSx ?_))
   refine (state_any a0 z1).mono ?_
   rintro e z2 ⟨rfl, hb⟩
   have T2 := Lib.hid (T1.out.next hb)
   clear hb T1
   go_wp2_with fail
   refine (HFW.out z2 T2.out.2.2).mono ?_
   rintro e z3 ⟨rfl, hb⟩
   have T3 := Lib.hid (T2.out.next hb)
   clear hb T2
   have hvn := HSX.out.1.vn
   have hpn := HSX.out.1.pn
   have hfn := HSX.out.1.fn
   have hwn := HSX.out.1.wn
   have hb60 := few_len HQ.out
   have HLN := Lib.hid hb60
   have HCV : Hid (∀ W1, Below w.heap.size w W1 → Calls Tryz.prog 25 #[.slice a0.va a0.vn a0.vc] W1 fun e w' => ∃ v, e = .returned v ∧ w'.ownsRow W1.heap.size 68 7 v a0.vn (flat V) ∧ Below W1.heap.size W1 w') := Lib.hid fun W1 hb => by
    have := clone_any (fun _ => False) a0.va a0.vc V W1 (HSX.out.1.vl.below hb) (by omega)
    rwa [hvn] at this
   have HCP : Hid (∀ W1, Below w.heap.size w W1 → Calls Tryz.prog 26 #[.slice a0.pa a0.pn a0.pc] W1 fun e w' => ∃ v, e = .returned v ∧ OwnI w' W1.heap.size v pd ∧ Below W1.heap.size W1 w') := Lib.hid fun W1 hb => cloneI_any _ _ _ _ pd W1 (HSX.out.1.pl.below hb) hpn (by omega)
   have HCF : Hid (∀ W1, Below w.heap.size w W1 → Calls Tryz.prog 26 #[.slice a0.fa a0.fn a0.fc] W1 fun e w' => ∃ v, e = .returned v ∧ OwnI w' W1.heap.size v F ∧ Below W1.heap.size W1 w') := Lib.hid fun W1 hb => cloneI_any _ _ _ _ F W1 (HSX.out.1.fl.below hb) hfn (by omega)
   have HCW : Hid (∀ W1, Below w.heap.size w W1 → Calls Tryz.prog 26 #[.slice a0.wa a0.wn a0.wc] W1 fun e w' => ∃ v, e = .returned v ∧ OwnI w' W1.heap.size v W ∧ Below W1.heap.size W1 w') := Lib.hid fun W1 hb => cloneI_any _ _ _ _ W W1 (HSX.out.1.wl.below hb) hwn (by omega)
   clear hvn hpn hfn hwn hb60
   have N4 : Hid (Blk (z3.alloc (.cells (cellsSx a0) 28)) z3.heap.size 28 (cellsSx a0)) := Lib.hid (Blk.new z3 _ _)
   have T4 := Lib.hid (T3.out.next ((Below.refl _ z3).alloc (Nat.le_refl _) (.cells (cellsSx a0) 28)))
   have HTB : Hid (w.heap.size + 2 ≤ z3.heap.size) := Lib.hid (by have := T3.out.2.1.lt; omega)
   go_upto_region 4 with (first | (refine wlr 28 w.heap.size T3.out.1 Tryz.underlying28 infoSx ?_) | (refine wsr z3.heap.size (cellsSx a0) 28 (heap_alloc_new z3 _) infoSx (cellsSx_one a0) ?_; rw [World.setRow_alloc_new]))
   try simp only [Act.put]
   generalize z3.alloc (.cells (cellsSx a0) 28) = z4 at *
   generalize z3.heap.size = tb at *
   clear T3
   refine wrF (fun w' => Blk w' w.heap.size 28 (cellsSx a0)) 13 5 [0, 1, 3, 4, 6, 7, 9, 10] (?_) ?_
   ·exact T4.out.1.drew
   simp only [List.filterMap_cons, List.filterMap_nil, List.getElem?_toArray, List.getElem?_cons_zero, List.getElem?_cons_succ]
   show wpQuiet _ _ _ _ [_, _, _, _, _, _, _, _] _
   iterate 1 (go_big_quiet_step ((intros; rfl)))
   refine qce _ ⟨w.heap.size, 2, none⟩ (.slice a0.va a0.vn a0.vc) (fun w' h => h.cell 2) ?_
   simp only [Act.put, List.setIfInBounds_toArray, List.set_cons_zero, List.set_cons_succ]
   iterate 1 (go_big_quiet_step ((intros; rfl)))
   refine qce _ ⟨w.heap.size, 7, none⟩ (.slice a0.pa a0.pn a0.pc) (fun w' h => h.cell 7) ?_
   simp only [Act.put, List.setIfInBounds_toArray, List.set_cons_zero, List.set_cons_succ]
   iterate 1 (go_big_quiet_step ((intros; rfl)))
   refine qce _ ⟨w.heap.size, 8, none⟩ (.slice a0.fa a0.fn a0.fc) (fun w' h => h.cell 8) ?_
   simp only [Act.put, List.setIfInBounds_toArray, List.set_cons_zero, List.set_cons_succ]
   iterate 1 (go_big_quiet_step ((intros; rfl)))
   refine qce _ ⟨w.heap.size, 9, none⟩ (.slice a0.wa a0.wn a0.wc) (fun w' h => h.cell 9) ?_
   simp only [Act.put, List.setIfInBounds_toArray, List.set_cons_zero, List.set_cons_succ]
   refine wpQuiet_nil ?_
   have T5 := Lib.hid (T4.out.next (Below.refl _ z4).drew)
   have N5 := Lib.hid N4.out.drew
   clear T4 N4
   generalize z4.drew = z5 at *
   refine hfO (i := 2) ?_
   refine wcA #[.slice a0.va a0.vn a0.vc] Tryz.call25 ((HCV.out z5 T5.out.2.2).mono ?_)
   rintro e z6 ⟨v1, rfl, ho, hb⟩
   have R1 : Hid (z6.ownsRow (tb + 1) 68 7 v1 a0.vn (flat V)) := Lib.hid (ownsR_base ho (by have := N5.out.lt; omega))
   have T6 := Lib.hid (T5.out.next hb)
   have N6 := Lib.hid (N5.out.below hb N5.out.lt)
   clear ho hb T5 N5
   refine ⟨_, rfl, T6.out.1, ?_⟩
   try simp only [Act.put, List.getElem_toArray, List.getElem_cons_zero, List.getElem_cons_succ, List.setIfInBounds_toArray, List.set_cons_zero, List.set_cons_succ, List.drop_succ_cons, List.drop_zero]
   refine hfT (fun w' => Blk w' w.heap.size 28 (cellsSx a0)) (m := 4) (f := 3) [12] (?_) ?_
   ·exact T6.out.1
   simp only [List.filterMap_cons, List.filterMap_nil, List.getElem?_toArray, List.getElem?_cons_zero, List.getElem?_cons_succ]
   show wpQuiet _ _ _ _ [_] _
   iterate 1 (go_big_quiet_step ((intros; rfl)))
   refine wpQuiet_nil ?_
   try simp only [Act.put, List.getElem_toArray, List.getElem_cons_zero, List.getElem_cons_succ, List.setIfInBounds_toArray, List.set_cons_zero, List.set_cons_succ, List.drop_succ_cons, List.drop_zero]
   refine hfO (i := 5) ?_
   refine wcA #[.slice a0.pa a0.pn a0.pc] Tryz.call26 ((HCP.out z6 T6.out.2.2).mono ?_)
   rintro e z7 ⟨v2, rfl, ho, hb⟩
   have R2 : Hid (OwnI z7 (tb + 1) v2 pd) := Lib.hid (ownsR_base ho (by have := N6.out.lt; omega))
   have R1 := Lib.hid (ownsR_below R1.out hb)
   have T7 := Lib.hid (T6.out.next hb)
   have N7 := Lib.hid (N6.out.below hb N6.out.lt)
   clear ho hb T6 N6
   refine ⟨_, rfl, T7.out.1, ?_⟩
   try simp only [Act.put, List.getElem_toArray, List.getElem_cons_zero, List.getElem_cons_succ, List.setIfInBounds_toArray, List.set_cons_zero, List.set_cons_succ, List.drop_succ_cons, List.drop_zero]
   refine hfO (i := 8) ?_
   refine wcA #[.slice a0.fa a0.fn a0.fc] Tryz.call26 ((HCF.out z7 T7.out.2.2).mono ?_)
   rintro e z8 ⟨v3, rfl, ho, hb⟩
   have R3 : Hid (OwnI z8 (tb + 1) v3 F) := Lib.hid (ownsR_base ho (by have := N7.out.lt; omega))
   have R1 := Lib.hid (ownsR_below R1.out hb)
   have R2 := Lib.hid (ownsR_below R2.out hb)
   have T8 := Lib.hid (T7.out.next hb)
   have N8 := Lib.hid (N7.out.below hb N7.out.lt)
   clear ho hb T7 N7
   refine ⟨_, rfl, T8.out.1, ?_⟩
   try simp only [Act.put, List.getElem_toArray, List.getElem_cons_zero, List.getElem_cons_succ, List.setIfInBounds_toArray, List.set_cons_zero, List.set_cons_succ, List.drop_succ_cons, List.drop_zero]
   refine hfO (i := 11) ?_
   refine wcA #[.slice a0.wa a0.wn a0.wc] Tryz.call26 ((HCW.out z8 T8.out.2.2).mono ?_)
   rintro e z9 ⟨v4, rfl, ho, hb⟩
   have R4 : Hid (OwnI z9 (tb + 1) v4 W) := Lib.hid (ownsR_base ho (by have := N8.out.lt; omega))
   have R1 := Lib.hid (ownsR_below R1.out hb)
   have R2 := Lib.hid (ownsR_below R2.out hb)
   have R3 := Lib.hid (ownsR_below R3.out hb)
   have T9 := Lib.hid (T8.out.next hb)
   have N9 := Lib.hid (N8.out.below hb N8.out.lt)
   clear ho hb T8 N8
   refine ⟨_, rfl, T9.out.1, ?_⟩
   show Region.seqB _ _ _ _ _ = true ∧ _
   refine ⟨by kernel_rfl, ?_⟩
   simp only [Act.put, List.getElem_toArray, List.getElem_cons_zero, List.getElem_cons_succ, List.setIfInBounds_toArray, List.set_cons_zero, List.set_cons_succ, List.drop_succ_cons, List.drop_zero]
   have c2 := N9.out.cell 2
   have f2 := N9.out.frozen 2
   have c7 := N9.out.cell 7
   have f7 := N9.out.frozen 7
   have c8 := N9.out.cell 8
   have f8 := N9.out.frozen 8
   have c9 := N9.out.cell 9
   have f9 := N9.out.frozen 9
   have y2 : z9.cell? ⟨tb, 2, none⟩ = some (.slice a0.va a0.vn a0.vc) := c2
   have y7 : z9.cell? ⟨tb, 7, none⟩ = some (.slice a0.pa a0.pn a0.pc) := c7
   have y8 : z9.cell? ⟨tb, 8, none⟩ = some (.slice a0.fa a0.fn a0.fc) := c8
   have y9 : z9.cell? ⟨tb, 9, none⟩ = some (.slice a0.wa a0.wn a0.wc) := c9
   clear c2 c7 c8 c9
   obtain ⟨b1, k1, rfl, q1, p1, l1⟩ := ownsR_lst (S := fun i => i ≤ tb) (row := Val.row) (l := V) (fun _ => rfl) R1.out HSX.out.1.vn fun i hi => by have := (R1.out.lt i hi).1; omega
   obtain ⟨b2, k2, rfl, n2, q2, p2, l2⟩ := ints_of_owns (S := fun i => i ≤ tb) (ownsR_base R2.out (Nat.zero_le _)) fun i hi => by have := (R2.out.lt i hi).1; omega
   obtain ⟨b3, k3, rfl, n3, q3, p3, l3⟩ := ints_of_owns (S := fun i => i ≤ tb) (ownsR_base R3.out (Nat.zero_le _)) fun i hi => by have := (R3.out.lt i hi).1; omega
   obtain ⟨b4, k4, rfl, n4, q4, p4, l4⟩ := ints_of_owns (S := fun i => i ≤ tb) (ownsR_base R4.out (Nat.zero_le _)) fun i hi => by have := (R4.out.lt i hi).1; omega
   obtain ⟨xk, hxk⟩ : ∃ xk : Sx, { a0 with va := b1, vc := k1, pa := b2, pn := pd.length, pc := k2, fa := b3, fn := F.length, fc := k3, wa := b4, wn := W.length, wc := k4 } = xk := ⟨_, rfl⟩
   have HF4 := Lib.hid (four_kept z9 tb (.slice b1 a0.vn k1) (.slice b2 pd.length k2) (.slice b3 F.length k3) (.slice b4 W.length k4))
   have HB4 := Lib.hid (four_blk N9.out (.slice b1 a0.vn k1) (.slice b2 pd.length k2) (.slice b3 F.length k3) (.slice b4 W.length k4))
   rw [keep_cells a0, hxk] at HB4
   have TZ : Hid (SC w (four z9 tb (.slice b1 a0.vn k1) (.slice b2 pd.length k2) (.slice b3 F.length k3) (.slice b4 W.length k4)) a0 a1) := Lib.hid (by
    have := HTB.out
    exact ⟨four_far T9.out.1 (by omega) _ _ _ _, four_far T9.out.2.1 (by omega) _ _ _ _, four_below T9.out.2.2 (by omega) _ _ _ _⟩)
   have XZ : Hid (SxAt (four z9 tb (.slice b1 a0.vn k1) (.slice b2 pd.length k2) (.slice b3 F.length k3) (.slice b4 W.length k4)) (fun _ => False) xk V pd F W) := Lib.hid (by
    have h := HSX.out.1
    have l1' : LstR Val.row 7 _ (fun _ => False) b1 V := (l1.kept (S := fun i => i ≤ tb) (HF4.out.more fun i _ hi => by show i ≤ tb; omega)).more fun i _ hi => hi.elim
    have l2' := (l2.kept HF4.out (T := fun i => i = tb) fun i _ hi => by show i ≤ tb; omega).other (T := fun _ => False) fun i _ hi => hi.elim
    have l3' := (l3.kept HF4.out (T := fun i => i = tb) fun i _ hi => by show i ≤ tb; omega).other (T := fun _ => False) fun i _ hi => hi.elim
    have l4' := (l4.kept HF4.out (T := fun i => i = tb) fun i _ hi => by show i ≤ tb; omega).other (T := fun _ => False) fun i _ hi => hi.elim
    rw [← hxk]
    exact ⟨⟨h.nums.bk, h.nums.ep, h.nums.D, h.nums.P, h.nums.B, h.nums.ac, h.nums.un, h.nums.mn, h.nums.tn⟩, l1', h.vn, ⟨q1, p1⟩, h.vf, l2', rfl, ⟨q2, p2⟩, h.pf, l3', rfl, ⟨q3, p3⟩, h.ff, l4', rfl, ⟨q4, p4⟩, h.wf⟩)
   have HXK : Hid (xk.va = b1 ∧ xk.vn = a0.vn ∧ xk.vc = k1 ∧ xk.pa = b2 ∧ xk.pn = pd.length ∧ xk.pc = k2 ∧ xk.fa = b3 ∧ xk.fn = F.length ∧ xk.fc = k3 ∧ xk.wa = b4 ∧ xk.wn = W.length ∧ xk.wc = k4) := Lib.hid (by rw [← hxk]; exact ⟨rfl, rfl, rfl, rfl, rfl, rfl, rfl, rfl, rfl, rfl, rfl, rfl⟩)
   clear l1 l2 l3 l4 R1 R2 R3 R4 T9 N9 HF4 n2 n3 n4 hxk
   go_wp2_with fail
   change NoPanic _ _ _ (four z9 tb (.slice b1 a0.vn k1) (.slice b2 pd.length k2) (.slice b3 F.length k3) (.slice b4 W.length k4))
   generalize four z9 tb (.slice b1 a0.vn k1) (.slice b2 pd.length k2) (.slice b3 F.length k3) (.slice b4 W.length k4) = Z at *
   clear y2 y7 y8 y9 f2 f7 f8 f9
   have AZ : Hid (AuAt Z xk a1 V pd F W) := Lib.hid { HAU.out with sx := XZ.out }
   clear XZ
   refine NoPanic.normal ?_
   go_wp2_with (first | (refine wlr 28 tb HB4.out Tryz.underlying28 infoSx ?_) | (refine wlr 30 (w.heap.size + 1) TZ.out.2.1 Tryz.underlying30 infoCf ?_))
   refine (Check_any Z AZ.out).mono ?_
   rintro e z10 ⟨rfl, hb⟩
   have TA := Lib.hid (TZ.out.next hb)
   have NA := Lib.hid (HB4.out.below hb HB4.out.lt)
   have AA := Lib.hid (AZ.out.below hb)
   clear hb TZ HB4 AZ
   generalize firstV a1 (anOf xk V pd F W) = fv at *
   go_wp2_with (first | (refine wlr 28 tb NA.out Tryz.underlying28 infoSx ?_) | (refine wlr 30 (w.heap.size + 1) TA.out.2.1 Tryz.underlying30 infoCf ?_))
   refine (All_any z10 AA.out).mono ?_
   rintro e z11 ⟨vv, rfl, _, hb⟩
   have TB := Lib.hid (TA.out.next hb)
   have NB := Lib.hid (NA.out.below hb NA.out.lt)
   have AB := Lib.hid (AA.out.below hb)
   clear hb TA NA AA
   go_wp2_with fail
   refine (HV.out _).mono ?_
   rintro e z12 ⟨rfl, hb⟩
   have TC := Lib.hid (TB.out.next hb)
   have NC := Lib.hid (NB.out.below hb NB.out.lt)
   have AC := Lib.hid (AB.out.below hb)
   clear hb TB NB AB HXK
   have u2 := cel NC.out 2
   have q2 := cel TC.out.1 2
   go_wp2_with fail
   refine (eqVal_any xk.va a0.va xk.vn a0.vn xk.vc a0.vc V V z12 (fun _ => False) (fun _ => False) AC.out.sx.vl (HSX.out.1.vl.below TC.out.2.2) AC.out.sx.vn HSX.out.1.vn (by have := AC.out.vl; have := AC.out.sx.vn; omega) (by have := AC.out.vl; have := HSX.out.1.vn; omega)).mono ?_
   rintro e z13 ⟨rfl, hb⟩
   have dd : decide (V = V) = true := by simp
   rw [dd]
   have TD := Lib.hid (TC.out.next hb)
   have ND := Lib.hid (NC.out.below hb NC.out.lt)
   have AD := Lib.hid (AC.out.below hb)
   clear hb dd u2 q2 TC NC AC
   have u7 := cel ND.out 7
   have q7 := cel TD.out.1 7
   go_wp2_with fail
   refine (equal_any (L := pd) (L2 := pd) AD.out.sx.pl (HSX.out.1.pl.below TD.out.2.2) AD.out.sx.pn HSX.out.1.pn (by have := AD.out.pl; have := AD.out.sx.pn; omega) (by have := AD.out.pl; have := HSX.out.1.pn; omega)).mono ?_
   rintro e z14 ⟨rfl, hb⟩
   replace hb : Below z13.heap.size z13 z14 := by
    obtain ⟨m, rfl⟩ := hb
    exact below_drewN (Below.refl _ _) m
   have dd : decide (pd = pd) = true := by simp
   rw [dd]
   have TE := Lib.hid (TD.out.next hb)
   have NE := Lib.hid (ND.out.below hb ND.out.lt)
   have AE := Lib.hid (AD.out.below hb)
   clear hb dd u7 q7 TD ND AD
   have u8 := cel NE.out 8
   have q8 := cel TE.out.1 8
   go_wp2_with fail
   refine (equal_any (L := F) (L2 := F) AE.out.sx.fl (HSX.out.1.fl.below TE.out.2.2) AE.out.sx.fn HSX.out.1.fn (by have := AE.out.fl; have := AE.out.sx.fn; omega) (by have := AE.out.fl; have := HSX.out.1.fn; omega)).mono ?_
   rintro e z15 ⟨rfl, hb⟩
   replace hb : Below z14.heap.size z14 z15 := by
    obtain ⟨m, rfl⟩ := hb
    exact below_drewN (Below.refl _ _) m
   have dd : decide (F = F) = true := by simp
   rw [dd]
   have TF := Lib.hid (TE.out.next hb)
   have NF := Lib.hid (NE.out.below hb NE.out.lt)
   have AF := Lib.hid (AE.out.below hb)
   clear hb dd u8 q8 TE NE AE
   have u9 := cel NF.out 9
   have q9 := cel TF.out.1 9
   go_wp2_with fail
   refine (equal_any (L := W) (L2 := W) AF.out.sx.wl (HSX.out.1.wl.below TF.out.2.2) AF.out.sx.wn HSX.out.1.wn (by have := AF.out.wl; have := AF.out.sx.wn; omega) (by have := AF.out.wl; have := HSX.out.1.wn; omega)).mono ?_
   rintro e z16 ⟨rfl, hb⟩
   replace hb : Below z15.heap.size z15 z16 := by
    obtain ⟨m, rfl⟩ := hb
    exact below_drewN (Below.refl _ _) m
   have dd : decide (W = W) = true := by simp
   rw [dd]
   have TG := Lib.hid (TF.out.next hb)
   have NG := Lib.hid (NF.out.below hb NF.out.lt)
   have AG := Lib.hid (AF.out.below hb)
   clear hb dd u9 q9 TF NF AF
   go_wp2_with fail
   go_ret
   exact ⟨rfl, TG.out.2.2⟩
  | false =>
   rw [hq] at HFW
   clear hq
   go_enter Tryz.func8, Tryz.ntmps8
   go_upto_region 1 with (fail)
   generalize (w.alloc (.cells (cellsSx a0) 28)).alloc (.cells (cellsOf a1) 30) = W0 at *
   go_wp2_with (first | (refine wlr 30 (w.heap.size + 1) T0.out.2.1 Tryz.underlying30 infoCf ?_))
   refine (HCK.out _).mono ?_
   rintro e z1 ⟨rfl, hb⟩
   have T1 := Lib.hid (T0.out.next hb)
   clear hb T0
   go_wp2_with (first | (refine wpList_load_rowG rfl 28 _ rfl w.heap.size rfl 28 _ (0, 0) _ T1.out.1 Tryz.underlying28 rfl infoSx ?_))
   refine (state_any a0 z1).mono ?_
   rintro e z2 ⟨rfl, hb⟩
   have T2 := Lib.hid (T1.out.next hb)
   clear hb T1
   go_wp2_with fail
   refine (HFW.out z2 T2.out.2.2).mono ?_
   rintro e z3 ⟨rfl, hb⟩
   have T3 := Lib.hid (T2.out.next hb)
   clear hb T2
   go_wp2_with fail
   refine (HV.out _).mono ?_
   rintro e z9 ⟨rfl, hb⟩
   have B9 : Hid (Below w.heap.size w z9) := Lib.hid (T3.out.2.2.trans (hb.mono T3.out.2.2.size))
   clear hb
   go_wp2_with fail
   go_ret
   exact ⟨rfl, B9.out⟩
 ·have dc : (chk a1 != 0) = true := by simpa using hc
  generalize chk a1 = ck at *
  clear hc
  go_enter Tryz.func8, Tryz.ntmps8
  go_upto_region 1 with (fail)
  generalize (w.alloc (.cells (cellsSx a0) 28)).alloc (.cells (cellsOf a1) 30) = W0 at *
  go_wp2_with (first | (refine wlr 30 (w.heap.size + 1) T0.out.2.1 Tryz.underlying30 infoCf ?_))
  refine (HCK.out _).mono ?_
  rintro e z1 ⟨rfl, hb⟩
  have T1 := Lib.hid (T0.out.next hb)
  clear hb T0
  go_wp2_with fail
  refine (HV.out _).mono ?_
  rintro e z9 ⟨rfl, hb⟩
  have B9 : Hid (Below w.heap.size w z9) := Lib.hid (T1.out.2.2.trans (hb.mono T1.out.2.2.size))
  clear hb
  go_wp2_with fail
  go_ret
  exact ⟨rfl, B9.out⟩
end
section
open Go Go.ChangeShapes Go.WideShapes Go.ChangeAt Go.RowKit
open Go.ChangeMaps (open_string shut_string)
theorem own : ownKnob Tryz.prog.godebug = none := bigOwn
theorem laidOut : laidOutB Tryz.prog = true := bigLaid
set_option maxRecDepth 100000 in
theorem lifted (os : Os) (started : os.Started) (H : Type) (enc : TypeId × Value → H) :
  ReturnsInHanded {} Tryz.checked os 8 .any (Rows.auditKeepsSpec.pre6 enc Tryz.prog Tryz.f8 Rows.auditKeepsRow.domain false) (Rows.auditKeepsSpec.post enc Tryz.prog Tryz.f8 false true false false) := by
 refine returnsInHanded_of_change (C := Tryz.checked) own started (by as_aux_lemma => kernel_rfl) Tryz.func8
  (ChangeSpec.witness6 (enc := enc) (C := Tryz.checked) false ⟨#[], #[.agg (cellsSx (⟨0, 0, none, 0, 0, 0, 0, 0, 0, none, 0, 0, none, 0, 0, none, 0, 0, none, 0, 0, none, 0, 0, 0, 0, 0⟩)), .agg (cellsOf (fun _ => 0))], []⟩ 8 (by as_aux_lemma => kernel_rfl) (by as_aux_lemma => kernel_rfl) (by as_aux_lemma => kernel_rfl) (by as_aux_lemma => kernel_rfl)) ?_
 intro W base args ds gs before hval0 hW hcnd hsz
 have hval : ∀ (j : Nat) t v, Tryz.f8.params[j]? = some t → args[j]? = some v → Value.okWide Tryz.prog W .any base t v := hval0
 have hW' := hW
 obtain ⟨p, q, hA0, hV, rfl, hfz, hnd⟩ := hW
 have hA : DataW.TrodAll enc Tryz.prog W 0 (fun _ => true) true Tryz.f8.params.toList args.toList ds p := hA0
 rw [Tryz.params8] at hA hval
 obtain ⟨v0, vs0, d0, ds0, p0, q0, hargs, rfl, rfl, h0, r0⟩ := trodAll_cons hA
 obtain ⟨v1, vs1, d1, ds1, p1, q1, rfl, rfl, rfl, h1, r1⟩ := trodAll_cons r0
 obtain ⟨rfl, rfl, rfl⟩ := trodAll_nil r1
 obtain rfl : args = #[v0, v1] := by cases args; simp_all
 obtain ⟨rfl, rfl⟩ := trodVars_none hV
 obtain ⟨a0, rfl, w0⟩ := open_T28 (hval 0 28 v0 rfl rfl) h0
 have k0 := h0
 have lt0 : ∀ x ∈ p0, x.block < W.heap.size := by obtain ⟨m, hm⟩ := k0; exact DataW.trod_lt m _ _ _ hm
 obtain ⟨a1, rfl, w1⟩ := open_T30 (hval 1 30 v1 rfl rfl) h1
 have k1 := h1
 have lt1 : ∀ x ∈ p1, x.block < W.heap.size := by obtain ⟨m, hm⟩ := k1; exact DataW.trod_lt m _ _ _ hm
 clear hA0 hval0
 refine (walk_AuditKeeps a0 a1 W w0 w1).mono fun e W' ⟨he, bel⟩ => ?_
 subst he
 exact ⟨_, rfl, _, _, _, [], _, [], hW', trodAll_mk1 (shut_bool Tryz.underlying4 _), (trodAll_cons_mk (Below.trod laidOut (by as_aux_lemma => kernel_rfl) (of_decide_eq_true (by as_aux_lemma => kernel_rfl)) k0 bel lt0) (trodAll_cons_mk (Below.trod laidOut (by as_aux_lemma => kernel_rfl) (of_decide_eq_true (by as_aux_lemma => kernel_rfl)) k1 bel lt1) trodAll_mk0)), rfl, bel.frame _, fun h => by cases h⟩
theorem and_mk {a b : Bool} (ha : a = true) (hb : b = true) : (a && b) = true := by rw [ha, hb]; rfl
set_option maxHeartbeats 6400000 in
theorem closed : joinedFacts Tryz.prog 8 Tryz.f8 Rows.auditKeepsSpec Rows.auditKeepsRow = true := by
 unfold joinedFacts
 exact (and_mk (and_mk (and_mk (and_mk (and_mk (and_mk (and_mk (and_mk (and_mk (and_mk (and_mk (and_mk (and_mk (and_mk (and_mk (and_mk (and_mk (and_mk (and_mk (and_mk (and_mk (and_mk (and_mk (and_mk (and_mk (and_mk (and_mk (and_mk (and_mk (and_mk (and_mk (by as_aux_lemma => kernel_rfl) bigLaid) bigMaps) (by as_aux_lemma => kernel_rfl)) (by as_aux_lemma => kernel_rfl)) (by as_aux_lemma => kernel_rfl)) bigStops) (by as_aux_lemma => kernel_rfl)) bigKnobs) (by as_aux_lemma => kernel_rfl)) (by as_aux_lemma => kernel_rfl)) (by as_aux_lemma => kernel_rfl)) (by as_aux_lemma => kernel_rfl)) (by as_aux_lemma => kernel_rfl)) (by as_aux_lemma => kernel_rfl)) (by as_aux_lemma => kernel_rfl)) (by as_aux_lemma => kernel_rfl)) (by as_aux_lemma => kernel_rfl)) (by as_aux_lemma => kernel_rfl)) (by as_aux_lemma => kernel_rfl)) (by as_aux_lemma => kernel_rfl)) (by as_aux_lemma => kernel_rfl)) bigKeys) (by as_aux_lemma => kernel_rfl)) bigHeard) bigEnter) bigLift) bigMake) (by as_aux_lemma => kernel_rfl)) (by as_aux_lemma => kernel_rfl)) (by as_aux_lemma => kernel_rfl)) (by as_aux_lemma => kernel_rfl))
set_option maxHeartbeats 6400000 in
theorem over : Rows.auditKeepsRow.holds Tryz.pinned (OpenSpec.ofChange Rows.auditKeepsSpec) :=
 OpenClaim.holds_of_wide 8 Tryz.f8 rfl rfl rfl rfl rfl rfl rfl ⟨rfl, rfl, rfl, rfl, rfl⟩ rfl rfl rfl rfl rfl (by as_aux_lemma => kernel_rfl) Tryz.func8 closed
  (of_decide_eq_true (by as_aux_lemma => kernel_rfl)) (by unfold Func.isWrapper; first | (rw [if_pos (by decide +kernel)]; kernel_rfl) | (rw [if_neg (by decide +kernel)]; exact ⟨rfl, rfl⟩))
  (fun os started H enc _ => lifted os started H enc)
theorem proved : Rows.AuditKeepsSaid := over
end
end Go.Proofs.YtobgbcdgffgdhaaGreat
