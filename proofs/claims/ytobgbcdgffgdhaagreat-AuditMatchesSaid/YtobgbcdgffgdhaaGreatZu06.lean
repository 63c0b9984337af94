/- Part 6 of 29: L07SetV L07SetO L07SetW L07AllV L07Refs Ap L16Pair Seqs Mns Ep L05Tab L03Open L16Plain Whole WrapW L17Py L17Rq L17Plain L13Met L13MetOps. -/
import Derived.Test.YtobgbcdgffgdhaaGreatZu05
import Derived.Deep.CutRange
namespace Go.Proofs.YtobgbcdgffgdhaaGreat
set_option linter.unusedVariables false
set_option linter.unusedSimpArgs false
section
set_option maxRecDepth 100000
open Go Go.RowKit Go.Deep
section
variable {w a : World} {g t : Nat} {S : Nat → Prop}
theorem blk_setCells : ∀ (vs X Y Z : List Value) (w : World), Y.length = vs.length → Blk w g t (X ++ Y ++ Z).toArray → Blk (w.setCells g X.length vs) g t (X ++ vs ++ Z).toArray
 | [], X, Y, Z, w, hl, h => by
  obtain rfl := List.eq_nil_of_length_eq_zero hl
  exact h
 | v :: vs, X, [], Z, w, hl, h => by simp at hl
 | v :: vs, X, y :: Y, Z, w, hl, h => by
  have h1 := h.set_ X.length v
  have e : ((X ++ (y :: Y) ++ Z).toArray).setIfInBounds X.length v = ((X ++ [v]) ++ Y ++ Z).toArray := by
   simp [List.set_append]
  rw [e] at h1
  have := blk_setCells vs (X ++ [v]) Y Z _ (by simpa using hl) h1
  simpa [World.setCells] using this
theorem Kept.setCells (vs : List Value) : ∀ (o : Nat) (w : World), Kept S a w → S g ∨ a.heap.size ≤ g → Kept S a (w.setCells g o vs) := by
 induction vs with
 | nil => exact fun o w h _ => h
 | cons v vs ih => exact fun o w h hg => ih (o + 1) _ (h.setCell hg v) hg
theorem owns_set {l : List Val} {i cp : Nat} {old : Val} (h : w.ownsRow 0 68 7 (.slice (some ⟨g, 0, none⟩) l.length cp) l.length (flat l)) (hi : l[i]? = some old) (v : Val) :
  (w.setCells g (i * 7) v.row).ownsRow 0 68 7 (.slice (some ⟨g, 0, none⟩) l.length cp) l.length (flat (l.set i v)) ∧ w.there g (i * 7) 7 := by
 have hil := (List.getElem?_eq_some_iff.1 hi).1
 rcases h.2 with ⟨h1, _⟩ | ⟨g', cp', cur, h1, h2, h3, h4, h5, h6, h7⟩
 ·cases h1
 ·injection h1 with h1 _ hcp
  injection h1 with h1
  injection h1 with h1
  subst h1 hcp
  have el : l = l.take i ++ old :: l.drop (i + 1) := by
   have he := (List.getElem?_eq_some_iff.1 hi).2
   rw [← he, List.getElem_cons_drop, List.take_append_drop]
  have es : l.set i v = l.take i ++ v :: l.drop (i + 1) := by rw [List.set_eq_take_append_cons_drop, if_pos hil]
  have hX : (flat (l.take i)).length = i * 7 := by rw [flat_len, List.length_take]; congr 1; omega
  have e1 : flat l = flat (l.take i) ++ old.row ++ flat (l.drop (i + 1)) := by
   conv => lhs; rw [el]
   rw [flat_append]
   simp [flat]
  have e2 : flat (l.set i v) = flat (l.take i) ++ v.row ++ flat (l.drop (i + 1)) := by
   rw [es, flat_append]
   simp [flat]
  have e3 : cur = (flat (l.take i) ++ old.row ++ (flat (l.drop (i + 1)) ++ cur.toList.drop (l.length * 7))).toArray := by
   rw [← List.append_assoc, ← e1, ← h7, List.take_append_drop]
  have hb : Blk w g 68 (flat (l.take i) ++ old.row ++ (flat (l.drop (i + 1)) ++ cur.toList.drop (l.length * 7))).toArray := by rw [← e3]; exact h3
  have hb2 := blk_setCells v.row (flat (l.take i)) old.row _ w rfl hb
  rw [hX] at hb2
  have hsz : ((flat (l.take i) ++ v.row ++ (flat (l.drop (i + 1)) ++ cur.toList.drop (l.length * 7))).toArray).size = cur.size := by
   conv => rhs; rw [e3]
   simp [row_len]
  refine ⟨⟨by rw [flat_len, List.length_set], .inr ⟨g, cp, _, rfl, h2, hb2, h4, h5, hsz.trans h6, ?_⟩⟩, fun j hj => ⟨?_, hb.frozen _⟩⟩
  ·rw [← List.append_assoc, ← e2, List.toList_toArray, List.take_left' (by rw [flat_len, List.length_set])]
  ·have hc : i * 7 + j < cur.size := by
    rw [h6]
    have : l.length ≤ cp := h4
    have : (i + 1) * 7 ≤ l.length * 7 := Nat.mul_le_mul_right 7 hil
    have : l.length * 7 ≤ cp * 7 := Nat.mul_le_mul_right 7 h4
    omega
   have hb' : Blk w g 68 cur := h3
   rw [hb'.cell, Array.getElem?_eq_getElem hc]
   rfl
end
set_option maxHeartbeats 800000 in
theorem closure_any (b m cap pR pO pV : Nat) (s : Value) (c : Int → Int) (A T : Int) (old v : Val) (w : World) (h : RegB w b m s cap c A T) (hR : Blk w pR 83 #[.pointer (some ⟨b, 0, none⟩)]) (hO : Blk w pO 68 (cellsV old)) (hV : Blk w pV 68 (cellsV v))
  (ho : FitsV old) (hv : FitsV v) (hA0 : liveBal old ≤ A) (hA : A ≤ T) (hA2 : A - liveBal old ≤ T - old.bal) (hT0 : old.bal ≤ T) (hT1 : T ≤ 18446744073709551615) (hT : T - old.bal + v.bal ≤ 18446744073709551615) (hc0 : 1 ≤ c old.st) (hc1 : c old.st ≤ 4096) (hc2 : 0 ≤ c v.st) (hc3 : c v.st ≤ 4096) :
  CallsB Tryz.prog 219 #[.pointer (some ⟨pR, 0, none⟩), .pointer (some ⟨pO, 0, none⟩), .pointer (some ⟨pV, 0, none⟩)] w fun e w' => e = .returned (.tuple #[]) ∧
   RegB w' b m s cap (upd (upd c old.st (c old.st - 1)) v.st (upd c old.st (c old.st - 1) v.st + 1)) (A - liveBal old + liveBal v) (T - old.bal + v.bal) ∧ Kept (fun i => i = b ∨ i = m) w w' := by
 have hne : ∀ p t cs, Blk w p t cs → t ≠ 146 → ¬ (p = b ∨ p = m) := fun p t cs hp ht => by
  rintro (rfl | rfl)
  ·exact Blk.ne_ hp h.1 ht rfl
  ·obtain ⟨es, clock, h9, _⟩ := h.2
   unfold Blk at hp
   rw [hp] at h9; cases h9
 have nR := hne pR _ _ hR (by decide)
 have nO := hne pO _ _ hO (by decide)
 have nV := hne pV _ _ hV (by decide)
 have cR := cel hR 0
 have HX := Lib.hid (exclude_any b m cap s c A T old w h ho hA0 hA hT0 hT1 hc0 hc1)
 have HRb := Lib.hid hR
 have HOb := Lib.hid hO
 have HVb := Lib.hid hV
 have HV := Lib.hid hv
 have l0 := liveBal_le hv.bal.1
 have hq : 0 ≤ upd c old.st (c old.st - 1) v.st ∧ upd c old.st (c old.st - 1) v.st ≤ 4096 := by
  unfold upd
  split <;> omega
 clear h hR hO hV ho hv hne
 refine callsB_of_wp Tryz.func219 rfl ?_
 simp only [Tryz.ntmps219, List.size_toArray, List.length_cons, List.length_nil, Nat.reduceAdd, Nat.reduceSub, Array.replicate_succ, Array.replicate_zero, List.push_toArray, List.append_toArray, List.nil_append, List.cons_append]
 go_wp2_with (refine wpList_load_val rfl 68 _ rfl pO 0 rfl old _ HOb.out.range Tryz.underlying68 rfl infoV ?_)
 refine HX.out.1.mono ?_
 rintro e w1 ⟨rfl, hr1, hk1⟩
 have HR1 := Lib.hid hr1
 have HK1 := Lib.hid hk1
 have HV1 := Lib.hid (HVb.out.kept hk1 nV)
 have cR1 : w1.cell? ⟨pR, 0, none⟩ = some (.pointer (some ⟨b, 0, none⟩)) := (HRb.out.kept hk1 nR).cell 0
 have HI := Lib.hid (include_any b m cap s _ _ _ v w1 hr1 HV.out (by omega) hA2 hT hq.1 hq.2)
 clear hr1 hk1 cR HX HVb HOb HRb
 go_wp2_with (refine wpList_load_val rfl 68 _ rfl pV 0 rfl v _ HV1.out.range Tryz.underlying68 rfl infoV ?_)
 refine HI.out.1.mono ?_
 rintro e w2 ⟨rfl, hr2, hk2⟩
 have HZ := Lib.hid (And.intro hr2 (HK1.out.trans hk2 (fun _ _ h => h)))
 clear hr2 hk2
 go_wp2
 go_end0
 exact ⟨rfl, HZ.out⟩
end
section
set_option maxRecDepth 100000
open Go Go.RowKit Go.Deep
theorem exec_eqv {a : Act} {dst : Option Tmp} {yt ty : TypeId} {x y : Operand} {pos : String} {after : Array Edge} {guard : Option (Nat × Bool)} {w : World} {p q : Val} {r : Bool} (hx : a.eval x = .agg (cellsV p)) (hy : a.eval y = .agg (cellsV q)) (hr : decide (p = q) = r) :
  (execOp a.eval { dst, op := .binOp .eql 68 x y yt, type := ty, pos, after, guard }).run Tryz.prog w = .ok (.value (.bool r)) w := by
 simp only [execOp, hx, hy, Sem.run_bind, run_eqGuard_agg w .eql _ x y _ _ Tryz.eqGuardType68, Result.andThen_ok, run_eql_struct, eq_val p q w, Sem.run_pure, hr]
theorem exec_nev {a : Act} {dst : Option Tmp} {yt ty : TypeId} {x y : Operand} {pos : String} {after : Array Edge} {guard : Option (Nat × Bool)} {w : World} {p q : Val} {r : Bool} (hx : a.eval x = .agg (cellsV p)) (hy : a.eval y = .agg (cellsV q)) (hr : (!decide (p = q)) = r) :
  (execOp a.eval { dst, op := .binOp .neq 68 x y yt, type := ty, pos, after, guard }).run Tryz.prog w = .ok (.value (.bool r)) w := by
 simp only [execOp, hx, hy, Sem.run_bind, run_eqGuard_agg w .neq _ x y _ _ Tryz.eqGuardType68, Result.andThen_ok, run_neq_struct, eq_val p q w, Sem.run_pure, hr]
theorem setv_index (b n cp : Nat) (a : Option Addr) (i : Int) (v : Val) (w : World) (h1 : w.cell? ⟨b, 1, none⟩ = some (.slice a n cp)) (ho : i < 0 ∨ n ≤ i) :
  CallB 175 #[.pointer (some ⟨b, 0, none⟩), .int .i64 i, .agg (cellsV v)] w (.int .i64 7) := by
 have HB : Hid (Below w.heap.size w ((w.alloc (.cells #[.pointer (some ⟨b, 0, none⟩)] 83)).alloc (.cells (cellsV v) 68))) := Lib.hid (((Below.refl _ _).alloc (Nat.le_refl _) _).alloc (by simp) _)
 have H := Lib.hid (has_out b n cp a i ((w.alloc (.cells #[.pointer (some ⟨b, 0, none⟩)] 83)).alloc (.cells (cellsV v) 68)) (cell_alloc_some _ (cell_alloc_some _ h1)) ho)
 clear h1 ho
 go_enter_defers Tryz.func175, Tryz.ntmps175
 go_wp2_with fail
 refine H.out.mono ?_
 rintro e w1 ⟨rfl, rfl⟩
 go_wp2
 exact ⟨_, results_tmp rfl _ _ _, rfl, HB.out⟩
theorem set_start (b cap m n cp g i : Nat) (l : List Val) (old v : Val) (w : World) (h : RegB w b m (.slice (some ⟨g, 0, none⟩) l.length cp) cap (countOf l) (activeOf l) (totalOf l)) (ho : w.ownsRow 0 68 7 (.slice (some ⟨g, 0, none⟩) l.length cp) l.length (flat l)) (hi : l[i]? = some old) : i < l.length ∧ w.rangeAt g (i * 7) old.row ∧ g ≠ b ∧ g ≠ m := by
 refine ⟨(List.getElem?_eq_some_iff.1 hi).1, ?_, ?_, ?_⟩
 ·have := range_of_flat (w := w) (b := g) (off := 0) (l := l) (fun j u hu => by
   have := ho.cells rfl j u hu
   rwa [add_plain] at this) hi
  rwa [Nat.zero_add] at this
 ·rintro rfl
  rcases ho.2 with ⟨h1, _⟩ | ⟨g', cp', cur, h1, _, h3, _⟩
  ·cases h1
  ·injection h1 with h1 _ _; injection h1 with h1; injection h1 with h1; subst h1
   have := h.1; unfold Blk at this; rw [h3] at this; injection this with this; injection this with _ h9; exact absurd h9 (by decide)
 ·rintro rfl
  rcases ho.2 with ⟨h1, _⟩ | ⟨g', cp', cur, h1, _, h3, _⟩
  ·cases h1
  ·injection h1 with h1 _ _; injection h1 with h1; injection h1 with h1; subst h1
   obtain ⟨es, clock, h9, _⟩ := h.2; rw [h3] at h9; cases h9
set_option maxHeartbeats 1600000 in
theorem setv_same (b cap m cp g i : Nat) (l : List Val) (v : Val) (w : World) (h : RegB w b m (.slice (some ⟨g, 0, none⟩) l.length cp) cap (countOf l) (activeOf l) (totalOf l)) (ho : w.ownsRow 0 68 7 (.slice (some ⟨g, 0, none⟩) l.length cp) l.length (flat l)) (hi : l[i]? = some v) :
  CallB 175 #[.pointer (some ⟨b, 0, none⟩), .int .i64 i, .agg (cellsV v)] w (.int .i64 0) := by
 obtain ⟨hil, hr, -, -⟩ := set_start b cap m l.length cp g i l v v w h ho hi
 have HB : Hid (Below w.heap.size w ((w.alloc (.cells #[.pointer (some ⟨b, 0, none⟩)] 83)).alloc (.cells (cellsV v) 68))) := Lib.hid (((Below.refl _ _).alloc (Nat.le_refl _) _).alloc (by simp) _)
 have x1 := cell_alloc_some (.cells (cellsV v) 68) (cell_alloc_some (.cells #[.pointer (some ⟨b, 0, none⟩)] 83) h.cells.2.1)
 have HR : Hid (((w.alloc (.cells #[.pointer (some ⟨b, 0, none⟩)] 83)).alloc (.cells (cellsV v) 68)).rangeAt g (i * 7) v.row) := Lib.hid (fun j u hu => cell_alloc_some _ (cell_alloc_some _ (hr j u hu)))
 have H := Lib.hid (has_in b l.length cp i _ ((w.alloc (.cells #[.pointer (some ⟨b, 0, none⟩)] 83)).alloc (.cells (cellsV v) 68)) x1 hil)
 have HE : Hid (Blk ((w.alloc (.cells #[.pointer (some ⟨b, 0, none⟩)] 83)).alloc (.cells (cellsV v) 68)) (w.heap.size + 1) 68 (cellsV v)) := Lib.hid (by have := Blk.new (w.alloc (.cells #[.pointer (some ⟨b, 0, none⟩)] 83)) 68 (cellsV v); simpa using this)
 have cR : ((w.alloc (.cells #[.pointer (some ⟨b, 0, none⟩)] 83)).alloc (.cells (cellsV v) 68)).cell? ⟨w.heap.size, 0, none⟩ = some (.pointer (some ⟨b, 0, none⟩)) := cell_alloc_some _ ((Blk.new w _ _).cell 0)
 have hi1 : ¬ (i : Int) < 0 := by omega
 have hi2 : ¬ (l.length : Int) ≤ (i : Int) := by omega
 have hi3 : (i : Int) < (l.length : Int) := by omega
 clear h ho hi hr
 go_enter_defers Tryz.func175, Tryz.ntmps175
 go_wp2_with fail
 generalize (w.alloc (.cells #[.pointer (some ⟨b, 0, none⟩)] 83)).alloc (.cells (cellsV v) 68) = W at *
 refine H.out.mono ?_
 rintro e w1 ⟨rfl, rfl⟩
 have HE2 : Hid (Blk (W.alloc (.cells (cellsV v) 68)) (w.heap.size + 1) 68 (cellsV v)) := Lib.hid (HE.out.alloc _)
 have HN2 : Hid (Blk (W.alloc (.cells (cellsV v) 68)) W.heap.size 68 (cellsV v)) := Lib.hid (Blk.new _ _ _)
 go_wp2_with (first | (refine wpList_valG (.bool true) rfl (exec_eqv rfl rfl (by simp)) ?_) | (refine wpList_load_val rfl 68 _ rfl g (i * 7) rfl v _ HR.out Tryz.underlying68 rfl infoV ?_) | (refine wsr W.heap.size (cellsV v) 68 (heap_alloc_new W _) infoV (cellsV_one v) ?_; rw [World.setRow_alloc_new]) | (refine wpList_load_val rfl 68 _ rfl (w.heap.size + 1) 0 rfl v _ HE2.out.range Tryz.underlying68 rfl infoV ?_) | (refine wpList_load_val rfl 68 _ rfl W.heap.size 0 rfl v _ HN2.out.range Tryz.underlying68 rfl infoV ?_))
 exact ⟨_, results_tmp rfl _ _ _, rfl, HB.out.alloc HB.out.size _⟩
end
section
set_option maxRecDepth 100000
open Go Go.RowKit Go.Deep
theorem count_upd {l : List Val} {i : Nat} {old : Val} (h : l[i]? = some old) (v : Val) (q : Int) :
  upd (upd (countOf l) old.st (countOf l old.st - 1)) v.st (upd (countOf l) old.st (countOf l old.st - 1) v.st + 1) q = countOf (l.set i v) q := by
 rw [count_set h]
 simp only [upd]
 by_cases e1 : old.st = q
 ·subst e1
  by_cases e2 : old.st = v.st
  ·rw [← e2]; simp
  ·have e3 : ¬ v.st = old.st := fun e => e2 e.symm
   simp [e2, e3]
 ·have e4 : ¬ q = old.st := fun e => e1 e.symm
  by_cases e2 : v.st = q
  ·subst e2
   simp [e1, e4]
  ·have e3 : ¬ q = v.st := fun e => e2 e.symm
   simp [e1, e2, e3, e4]
set_option maxHeartbeats 3200000 in
theorem setv_over (b cap m cp g i : Nat) (l : List Val) (old v : Val) (w : World) (h : RegB w b m (.slice (some ⟨g, 0, none⟩) l.length cp) cap (countOf l) (activeOf l) (totalOf l)) (ho : w.ownsRow 0 68 7 (.slice (some ⟨g, 0, none⟩) l.length cp) l.length (flat l)) (hi : l[i]? = some old)
  (hne : v ≠ old) (hl : l.length ≤ 4096) (hf : ∀ x ∈ l, FitsV x) (hv : FitsV v) (hT1 : totalOf l ≤ 18446744073709551615) (hT : 18446744073709551615 < totalOf l - old.bal + v.bal) :
  Calls Tryz.prog 175 #[.pointer (some ⟨b, 0, none⟩), .int .i64 i, .agg (cellsV v)] w fun e w' => e = .returned (.int .i64 10) ∧ Kept (fun i => i = b ∨ i = m ∨ i = g) w w' ∧ RegB w' b m (.slice (some ⟨g, 0, none⟩) l.length cp) cap (countOf l) (activeOf l) (totalOf l) ∧ w'.ownsRow 0 68 7 (.slice (some ⟨g, 0, none⟩) l.length cp) l.length (flat l) := by
 obtain ⟨hil, hr, hgb, hgm⟩ := set_start b cap m l.length cp g i l old v w h ho hi
 have ⟨v0, v1⟩ := hv.bal
 have hfo := hf old (List.mem_of_getElem? hi)
 have ⟨o0, o1⟩ := hfo.bal
 have hTo : old.bal ≤ totalOf l ∧ liveBal old ≤ activeOf l ∧ 1 ≤ countOf l old.st ∧ activeOf l - liveBal old ≤ totalOf l - old.bal := by
  have e1 := total_set hi val0
  have e2 := active_set hi val0
  have e3 := count_set hi ⟨0, old.st + 1, false, 0, 0, 0, 0⟩ old.st
  have hset : ∀ x ∈ l.set i val0, FitsV x := fun x hx => by
   rcases List.mem_or_eq_of_mem_set hx with hx | rfl
   ·exact hf x hx
   ·exact ⟨by decide, by decide⟩
  have a1 := total_nonneg hset
  have a2 := active_le hset
  have a3 := count_bounds (l.set i ⟨0, old.st + 1, false, 0, 0, 0, 0⟩) old.st
  have z1 : val0.bal = 0 := rfl
  have z2 : liveBal val0 = 0 := rfl
  simp only [if_true] at e3
  rw [if_neg (by omega)] at e3
  refine ⟨by omega, by omega, by omega, by omega⟩
 obtain ⟨hA0, hA⟩ := active_le hf
 have hc1 := count_bounds l old.st
 have hc2 := count_bounds l v.st
 have x1 := cell_alloc_some (.cells (cellsV v) 68) (cell_alloc_some (.cells #[.pointer (some ⟨b, 0, none⟩)] 83) h.cells.2.1)
 have HR : Hid (((w.alloc (.cells #[.pointer (some ⟨b, 0, none⟩)] 83)).alloc (.cells (cellsV v) 68)).rangeAt g (i * 7) old.row) := Lib.hid (fun j u hu => cell_alloc_some _ (cell_alloc_some _ (hr j u hu)))
 have H := Lib.hid (has_in b l.length cp i _ ((w.alloc (.cells #[.pointer (some ⟨b, 0, none⟩)] 83)).alloc (.cells (cellsV v) 68)) x1 hil)
 have HE : Hid (Blk ((w.alloc (.cells #[.pointer (some ⟨b, 0, none⟩)] 83)).alloc (.cells (cellsV v) 68)) (w.heap.size + 1) 68 (cellsV v)) := Lib.hid (by have := Blk.new (w.alloc (.cells #[.pointer (some ⟨b, 0, none⟩)] 83)) 68 (cellsV v); simpa using this)
 have HP : Hid (Blk ((w.alloc (.cells #[.pointer (some ⟨b, 0, none⟩)] 83)).alloc (.cells (cellsV v) 68)) w.heap.size 83 #[.pointer (some ⟨b, 0, none⟩)]) := Lib.hid (Blk.alloc (Blk.new w _ _) _)
 have cR := HP.out.cell 0
 have HG := Lib.hid ((h.alloc (.cells #[.pointer (some ⟨b, 0, none⟩)] 83)).alloc (.cells (cellsV v) 68))
 have HO := Lib.hid ((ho.alloc (.cells #[.pointer (some ⟨b, 0, none⟩)] 83)).alloc (.cells (cellsV v) 68))
 have HK : Hid (Kept (fun i => i = b ∨ i = m ∨ i = g) w ((w.alloc (.cells #[.pointer (some ⟨b, 0, none⟩)] 83)).alloc (.cells (cellsV v) 68))) := Lib.hid (((Kept.refl _ w).alloc _).alloc _)
 have hgl : g < w.heap.size := (ho.lt g rfl).2
 have hbl := h.1.lt
 have hml := h.2.lt
 have hsz : ((w.alloc (.cells #[.pointer (some ⟨b, 0, none⟩)] 83)).alloc (.cells (cellsV v) 68)).heap.size = w.heap.size + 2 := by simp
 have hi1 : ¬ (i : Int) < 0 := by omega
 have hi2 : ¬ (l.length : Int) ≤ (i : Int) := by omega
 have hi3 : (i : Int) < (l.length : Int) := by omega
 have HI := Lib.hid hi
 have HNE := Lib.hid hne
 have HFO := Lib.hid hfo
 have HV := Lib.hid hv
 obtain ⟨T, hTe⟩ := named (totalOf l)
 obtain ⟨A, hAe⟩ := named (activeOf l)
 rw [hTe, hAe] at hTo
 rw [hTe] at hT hT1 hA HG
 rw [hAe] at hA0 hA HG
 have hT0 : 0 ≤ T := by omega
 have HTE := Lib.hid hTe
 have HAE := Lib.hid hAe
 obtain ⟨n0, hn0⟩ := named (w.heap.size)
 have HN0 := Lib.hid hn0
 rw [hn0] at HE HP cR hgl hbl hml hsz
 have hob := hTo.1
 have HSZ := Lib.hid hsz
 clear hsz
 clear h ho hi hr hf hne hfo hv hTe hAe
 go_enter_defers Tryz.func175, Tryz.ntmps175
 go_wp2_with fail
 generalize ((w.alloc (.cells #[.pointer (some ⟨b, 0, none⟩)] 83)).alloc (.cells (cellsV v) 68)) = W at *
 refine H.out.mono ?_
 rintro e w1 ⟨rfl, rfl⟩
 have HE2 : Hid (Blk (W.alloc (.cells (cellsV old) 68)) (n0 + 1) 68 (cellsV v)) := Lib.hid (HE.out.alloc _)
 have HN2 : Hid (Blk (W.alloc (.cells (cellsV old) 68)) W.heap.size 68 (cellsV old)) := Lib.hid (Blk.new _ _ _)
 go_wp2_with (first | (refine wpList_valG (.bool false) rfl (exec_eqv rfl rfl (by simp [HNE.out])) ?_) | (refine wpList_load_val rfl 68 _ rfl g (i * 7) rfl old _ HR.out Tryz.underlying68 rfl infoV ?_) | (refine wsr W.heap.size (cellsV old) 68 (heap_alloc_new W _) infoV (cellsV_one old) ?_; rw [World.setRow_alloc_new]) | (refine wpList_load_val rfl 68 _ rfl (n0 + 1) 0 rfl v _ HE2.out.range Tryz.underlying68 rfl infoV ?_) | (refine wpList_load_val rfl 68 _ rfl W.heap.size 0 rfl old _ HN2.out.range Tryz.underlying68 rfl infoV ?_))
 have HP2 : Hid (Blk (W.alloc (.cells (cellsV old) 68)) n0 83 #[.pointer (some ⟨b, 0, none⟩)]) := Lib.hid (HP.out.alloc _)
 have HG2 := Lib.hid (HG.out.alloc (.cells (cellsV old) 68))
 have HO2 := Lib.hid (HO.out.alloc (.cells (cellsV old) 68))
 have HK2 := Lib.hid (HK.out.alloc (.cells (cellsV old) 68))
 have hsz2 : (W.alloc (.cells (cellsV old) 68)).heap.size = n0 + 3 := by have := HSZ.out; simp; omega
 have S1 : (W.alloc (.cells (cellsV old) 68)).cell? ⟨n0, 0, none⟩ = some (.pointer (some ⟨b, 0, none⟩)) ∧ (W.alloc (.cells (cellsV old) 68)).cell? ⟨b, 4, none⟩ = some (.int .u64 T) ∧ (W.alloc (.cells (cellsV old) 68)).cell? ⟨n0 + 2, 0, none⟩ = some (.int .u64 old.bal) ∧ (W.alloc (.cells (cellsV old) 68)).cell? ⟨n0 + 1, 0, none⟩ = some (.int .u64 v.bal) :=
  ⟨HP2.out.cell 0, HG2.out.cells.2.2.2.2, by rw [← HSZ.out]; exact HN2.out.cell 0, HE2.out.cell 0⟩
 have HS1 := Lib.hid S1
 rw [HSZ.out] at HN2
 simp only [HSZ.out]
 clear HE HP HG HO HK cR x1 H HR S1
 generalize W.alloc (.cells (cellsV old) 68) = W2 at *
 refine wrF (fun _ => True) 15 15 [] trivial ?_
 refine wpQuiet_nil ?_
 refine headF_takes (fun w' => w'.cell? ⟨n0, 0, none⟩ = some (.pointer (some ⟨b, 0, none⟩)) ∧ w'.cell? ⟨b, 4, none⟩ = some (.int .u64 T) ∧ w'.cell? ⟨n0 + 2, 0, none⟩ = some (.int .u64 old.bal) ∧ w'.cell? ⟨n0 + 1, 0, none⟩ = some (.int .u64 v.bal)) (m := 15) (f := 6) [0, 1, 2, 3, 4, 5, 6, 7, 8] (fun _ _ => trivial) (by kernel_rfl) HS1.out ?_
 simp only [List.filterMap_cons, List.filterMap_nil, List.getElem?_toArray, List.getElem?_cons_zero, List.getElem?_cons_succ]
 show wpQuiet _ _ _ _ [_, _, _, _, _, _, _, _, _] _
 refine qce 83 _ (.pointer (some ⟨b, 0, none⟩)) (fun w h => h.1) ?_
 simp only [Act.put, List.setIfInBounds_toArray, List.set_cons_zero, List.set_cons_succ]
 iterate 2 (go_big_quiet_step ((intros; rfl)))
 refine qce 23 _ (.int .u64 T) (fun w h => h.2.1) ?_
 simp only [Act.put, List.setIfInBounds_toArray, List.set_cons_zero, List.set_cons_succ]
 iterate 1 (go_big_quiet_step ((intros; rfl)))
 refine qce 23 _ (.int .u64 old.bal) (fun w h => h.2.2.1) ?_
 simp only [Act.put, List.setIfInBounds_toArray, List.set_cons_zero, List.set_cons_succ]
 iterate 2 (go_big_quiet_step ((intros; rfl)))
 refine qce 23 _ (.int .u64 v.bal) (fun w h => h.2.2.2) ?_
 simp only [Act.put, List.setIfInBounds_toArray, List.set_cons_zero, List.set_cons_succ]
 refine wpQuiet_nil ?_
 refine hfO (i := 9) ?_
 refine wpOp_at rfl rfl (wp_buildSlice_two 121 23 (.tmp 33) (.tmp 35) _ _ (.int .u64 (T - old.bal)) (.int .u64 v.bal) rfl rfl rfl Tryz.underlying121 u64_info rfl rfl rfl ⟨⟨cell_alloc_some _ HS1.out.1, cell_alloc_some _ HS1.out.2.1, cell_alloc_some _ HS1.out.2.2.1, cell_alloc_some _ HS1.out.2.2.2⟩, ?_⟩)
 refine hfO (i := 10) ?_
 simp only [Act.put, List.getElem_toArray, List.getElem_cons_zero, List.getElem_cons_succ, List.setIfInBounds_toArray, List.set_cons_zero, List.set_cons_succ]
 refine wcA #[.slice (some ⟨W2.drew.heap.size, 0, none⟩) 2 2] Tryz.call101 ((add2_not W2.drew.heap.size (T - old.bal) v.bal _ (Blk.new W2.drew _ _) (by omega) (by omega) v0 v1 (by omega)).mono ?_)
 rintro e w3 ⟨rfl, hw3⟩
 have S3 : w3.cell? ⟨n0, 0, none⟩ = some (.pointer (some ⟨b, 0, none⟩)) ∧ w3.cell? ⟨b, 4, none⟩ = some (.int .u64 T) ∧ w3.cell? ⟨n0 + 2, 0, none⟩ = some (.int .u64 old.bal) ∧ w3.cell? ⟨n0 + 1, 0, none⟩ = some (.int .u64 v.bal) := by rw [← hw3]; exact ⟨cell_alloc_some _ HS1.out.1, cell_alloc_some _ HS1.out.2.1, cell_alloc_some _ HS1.out.2.2.1, cell_alloc_some _ HS1.out.2.2.2⟩
 refine ⟨_, rfl, S3, ?_⟩
 have HZ : Hid (Kept (fun i => i = b ∨ i = m ∨ i = g) w w3 ∧ RegB w3 b m (.slice (some ⟨g, 0, none⟩) l.length cp) cap (countOf l) A T ∧ w3.ownsRow 0 68 7 (.slice (some ⟨g, 0, none⟩) l.length cp) l.length (flat l)) := Lib.hid (hw3 ▸ ⟨HK2.out.drew.alloc _, (HG2.out.drewN 1).alloc _, World.ownsRow.alloc (w := W2.drew) HO2.out _⟩)
 clear hw3
 simp only [Act.put, List.getElem_toArray, List.getElem_cons_zero, List.getElem_cons_succ, List.setIfInBounds_toArray, List.set_cons_zero, List.set_cons_succ]
 refine hfT (fun w' => w'.cell? ⟨n0, 0, none⟩ = some (.pointer (some ⟨b, 0, none⟩)) ∧ w'.cell? ⟨b, 4, none⟩ = some (.int .u64 T) ∧ w'.cell? ⟨n0 + 2, 0, none⟩ = some (.int .u64 old.bal) ∧ w'.cell? ⟨n0 + 1, 0, none⟩ = some (.int .u64 v.bal)) (m := 4) (f := 0) [11, 12, 13, 14] S3 ?_
 simp only [List.filterMap_cons, List.filterMap_nil, List.getElem?_toArray, List.getElem?_cons_zero, List.getElem?_cons_succ]
 show wpQuiet _ _ _ _ [_, _, _, _] _
 iterate 4 (go_big_quiet_step ((intros; rfl)))
 refine wpQuiet_nil ?_
 show Region.seqB _ _ _ _ _ = true ∧ _
 refine ⟨by kernel_rfl, ?_⟩
 simp only [Act.put, List.getElem_toArray, List.getElem_cons_zero, List.getElem_cons_succ, List.setIfInBounds_toArray, List.set_cons_zero, List.set_cons_succ, List.drop_succ_cons, List.drop_zero]
 clear S3 HS1
 go_wp2
 refine NoPanic.normal ?_
 go_wp2
 refine ⟨_, results_tmp rfl _ _ _, rfl, ?_⟩
 rw [HTE.out, HAE.out]
 exact HZ.out
set_option maxHeartbeats 3200000 in
theorem setv_ok (b cap m cp g i : Nat) (l : List Val) (old v : Val) (w : World) (h : RegB w b m (.slice (some ⟨g, 0, none⟩) l.length cp) cap (countOf l) (activeOf l) (totalOf l)) (ho : w.ownsRow 0 68 7 (.slice (some ⟨g, 0, none⟩) l.length cp) l.length (flat l)) (hi : l[i]? = some old)
  (hne : v ≠ old) (hl : l.length ≤ 4096) (hf : ∀ x ∈ l, FitsV x) (hv : FitsV v) (hT1 : totalOf l ≤ 18446744073709551615) (hT : totalOf l - old.bal + v.bal ≤ 18446744073709551615) :
  Calls Tryz.prog 175 #[.pointer (some ⟨b, 0, none⟩), .int .i64 i, .agg (cellsV v)] w fun e w' => e = .returned (.int .i64 0) ∧ Kept (fun i => i = b ∨ i = m ∨ i = g) w w' ∧ RegB w' b m (.slice (some ⟨g, 0, none⟩) l.length cp) cap (countOf (l.set i v)) (activeOf (l.set i v)) (totalOf (l.set i v)) ∧ w'.ownsRow 0 68 7 (.slice (some ⟨g, 0, none⟩) l.length cp) l.length (flat (l.set i v)) := by
 obtain ⟨hil, hr, hgb, hgm⟩ := set_start b cap m l.length cp g i l old v w h ho hi
 have ⟨v0, v1⟩ := hv.bal
 have hfo := hf old (List.mem_of_getElem? hi)
 have ⟨o0, o1⟩ := hfo.bal
 have hTo : old.bal ≤ totalOf l ∧ liveBal old ≤ activeOf l ∧ 1 ≤ countOf l old.st ∧ activeOf l - liveBal old ≤ totalOf l - old.bal := by
  have e1 := total_set hi val0
  have e2 := active_set hi val0
  have e3 := count_set hi ⟨0, old.st + 1, false, 0, 0, 0, 0⟩ old.st
  have hset : ∀ x ∈ l.set i val0, FitsV x := fun x hx => by
   rcases List.mem_or_eq_of_mem_set hx with hx | rfl
   ·exact hf x hx
   ·exact ⟨by decide, by decide⟩
  have a1 := total_nonneg hset
  have a2 := active_le hset
  have a3 := count_bounds (l.set i ⟨0, old.st + 1, false, 0, 0, 0, 0⟩) old.st
  have z1 : val0.bal = 0 := rfl
  have z2 : liveBal val0 = 0 := rfl
  simp only [if_true] at e3
  rw [if_neg (by omega)] at e3
  refine ⟨by omega, by omega, by omega, by omega⟩
 obtain ⟨hA0, hA⟩ := active_le hf
 have hc1 := count_bounds l old.st
 have hc2 := count_bounds l v.st
 have x1 := cell_alloc_some (.cells (cellsV v) 68) (cell_alloc_some (.cells #[.pointer (some ⟨b, 0, none⟩)] 83) h.cells.2.1)
 have HR : Hid (((w.alloc (.cells #[.pointer (some ⟨b, 0, none⟩)] 83)).alloc (.cells (cellsV v) 68)).rangeAt g (i * 7) old.row) := Lib.hid (fun j u hu => cell_alloc_some _ (cell_alloc_some _ (hr j u hu)))
 have H := Lib.hid (has_in b l.length cp i _ ((w.alloc (.cells #[.pointer (some ⟨b, 0, none⟩)] 83)).alloc (.cells (cellsV v) 68)) x1 hil)
 have HE : Hid (Blk ((w.alloc (.cells #[.pointer (some ⟨b, 0, none⟩)] 83)).alloc (.cells (cellsV v) 68)) (w.heap.size + 1) 68 (cellsV v)) := Lib.hid (by have := Blk.new (w.alloc (.cells #[.pointer (some ⟨b, 0, none⟩)] 83)) 68 (cellsV v); simpa using this)
 have HP : Hid (Blk ((w.alloc (.cells #[.pointer (some ⟨b, 0, none⟩)] 83)).alloc (.cells (cellsV v) 68)) w.heap.size 83 #[.pointer (some ⟨b, 0, none⟩)]) := Lib.hid (Blk.alloc (Blk.new w _ _) _)
 have cR := HP.out.cell 0
 have HG := Lib.hid ((h.alloc (.cells #[.pointer (some ⟨b, 0, none⟩)] 83)).alloc (.cells (cellsV v) 68))
 have HO := Lib.hid ((ho.alloc (.cells #[.pointer (some ⟨b, 0, none⟩)] 83)).alloc (.cells (cellsV v) 68))
 have HK : Hid (Kept (fun i => i = b ∨ i = m ∨ i = g) w ((w.alloc (.cells #[.pointer (some ⟨b, 0, none⟩)] 83)).alloc (.cells (cellsV v) 68))) := Lib.hid (((Kept.refl _ w).alloc _).alloc _)
 have hgl : g < w.heap.size := (ho.lt g rfl).2
 have hbl := h.1.lt
 have hml := h.2.lt
 have hsz : ((w.alloc (.cells #[.pointer (some ⟨b, 0, none⟩)] 83)).alloc (.cells (cellsV v) 68)).heap.size = w.heap.size + 2 := by simp
 have hi1 : ¬ (i : Int) < 0 := by omega
 have hi2 : ¬ (l.length : Int) ≤ (i : Int) := by omega
 have hi3 : (i : Int) < (l.length : Int) := by omega
 have HI := Lib.hid hi
 have HNE := Lib.hid hne
 have HFO := Lib.hid hfo
 have HV := Lib.hid hv
 obtain ⟨T, hTe⟩ := named (totalOf l)
 obtain ⟨A, hAe⟩ := named (activeOf l)
 rw [hTe, hAe] at hTo
 rw [hTe] at hT hT1 hA HG
 rw [hAe] at hA0 hA HG
 have hT0 : 0 ≤ T := by omega
 have HTE := Lib.hid hTe
 have HAE := Lib.hid hAe
 obtain ⟨n0, hn0⟩ := named (w.heap.size)
 have HN0 := Lib.hid hn0
 rw [hn0] at HE HP cR hgl hbl hml hsz
 have hob := hTo.1
 have HSZ := Lib.hid hsz
 clear hsz
 clear h ho hi hr hf hne hfo hv hTe hAe
 go_enter_defers Tryz.func175, Tryz.ntmps175
 go_wp2_with fail
 generalize ((w.alloc (.cells #[.pointer (some ⟨b, 0, none⟩)] 83)).alloc (.cells (cellsV v) 68)) = W at *
 refine H.out.mono ?_
 rintro e w1 ⟨rfl, rfl⟩
 have HE2 : Hid (Blk (W.alloc (.cells (cellsV old) 68)) (n0 + 1) 68 (cellsV v)) := Lib.hid (HE.out.alloc _)
 have HN2 : Hid (Blk (W.alloc (.cells (cellsV old) 68)) W.heap.size 68 (cellsV old)) := Lib.hid (Blk.new _ _ _)
 go_wp2_with (first | (refine wpList_valG (.bool false) rfl (exec_eqv rfl rfl (by simp [HNE.out])) ?_) | (refine wpList_load_val rfl 68 _ rfl g (i * 7) rfl old _ HR.out Tryz.underlying68 rfl infoV ?_) | (refine wsr W.heap.size (cellsV old) 68 (heap_alloc_new W _) infoV (cellsV_one old) ?_; rw [World.setRow_alloc_new]) | (refine wpList_load_val rfl 68 _ rfl (n0 + 1) 0 rfl v _ HE2.out.range Tryz.underlying68 rfl infoV ?_) | (refine wpList_load_val rfl 68 _ rfl W.heap.size 0 rfl old _ HN2.out.range Tryz.underlying68 rfl infoV ?_))
 have HP2 : Hid (Blk (W.alloc (.cells (cellsV old) 68)) n0 83 #[.pointer (some ⟨b, 0, none⟩)]) := Lib.hid (HP.out.alloc _)
 have HG2 := Lib.hid (HG.out.alloc (.cells (cellsV old) 68))
 have HO2 := Lib.hid (HO.out.alloc (.cells (cellsV old) 68))
 have HK2 := Lib.hid (HK.out.alloc (.cells (cellsV old) 68))
 have hsz2 : (W.alloc (.cells (cellsV old) 68)).heap.size = n0 + 3 := by have := HSZ.out; simp; omega
 have S1 : (W.alloc (.cells (cellsV old) 68)).cell? ⟨n0, 0, none⟩ = some (.pointer (some ⟨b, 0, none⟩)) ∧ (W.alloc (.cells (cellsV old) 68)).cell? ⟨b, 4, none⟩ = some (.int .u64 T) ∧ (W.alloc (.cells (cellsV old) 68)).cell? ⟨n0 + 2, 0, none⟩ = some (.int .u64 old.bal) ∧ (W.alloc (.cells (cellsV old) 68)).cell? ⟨n0 + 1, 0, none⟩ = some (.int .u64 v.bal) :=
  ⟨HP2.out.cell 0, HG2.out.cells.2.2.2.2, by rw [← HSZ.out]; exact HN2.out.cell 0, HE2.out.cell 0⟩
 have HS1 := Lib.hid S1
 rw [HSZ.out] at HN2
 simp only [HSZ.out]
 clear HE HP HG HO HK cR x1 H HR S1
 generalize W.alloc (.cells (cellsV old) 68) = W2 at *
 refine wrF (fun _ => True) 15 15 [] trivial ?_
 refine wpQuiet_nil ?_
 refine headF_takes (fun w' => w'.cell? ⟨n0, 0, none⟩ = some (.pointer (some ⟨b, 0, none⟩)) ∧ w'.cell? ⟨b, 4, none⟩ = some (.int .u64 T) ∧ w'.cell? ⟨n0 + 2, 0, none⟩ = some (.int .u64 old.bal) ∧ w'.cell? ⟨n0 + 1, 0, none⟩ = some (.int .u64 v.bal)) (m := 15) (f := 6) [0, 1, 2, 3, 4, 5, 6, 7, 8] (fun _ _ => trivial) (by kernel_rfl) HS1.out ?_
 simp only [List.filterMap_cons, List.filterMap_nil, List.getElem?_toArray, List.getElem?_cons_zero, List.getElem?_cons_succ]
 show wpQuiet _ _ _ _ [_, _, _, _, _, _, _, _, _] _
 refine qce 83 _ (.pointer (some ⟨b, 0, none⟩)) (fun w h => h.1) ?_
 simp only [Act.put, List.setIfInBounds_toArray, List.set_cons_zero, List.set_cons_succ]
 iterate 2 (go_big_quiet_step ((intros; rfl)))
 refine qce 23 _ (.int .u64 T) (fun w h => h.2.1) ?_
 simp only [Act.put, List.setIfInBounds_toArray, List.set_cons_zero, List.set_cons_succ]
 iterate 1 (go_big_quiet_step ((intros; rfl)))
 refine qce 23 _ (.int .u64 old.bal) (fun w h => h.2.2.1) ?_
 simp only [Act.put, List.setIfInBounds_toArray, List.set_cons_zero, List.set_cons_succ]
 iterate 2 (go_big_quiet_step ((intros; rfl)))
 refine qce 23 _ (.int .u64 v.bal) (fun w h => h.2.2.2) ?_
 simp only [Act.put, List.setIfInBounds_toArray, List.set_cons_zero, List.set_cons_succ]
 refine wpQuiet_nil ?_
 refine hfO (i := 9) ?_
 refine wpOp_at rfl rfl (wp_buildSlice_two 121 23 (.tmp 33) (.tmp 35) _ _ (.int .u64 (T - old.bal)) (.int .u64 v.bal) rfl rfl rfl Tryz.underlying121 u64_info rfl rfl rfl ⟨⟨cell_alloc_some _ HS1.out.1, cell_alloc_some _ HS1.out.2.1, cell_alloc_some _ HS1.out.2.2.1, cell_alloc_some _ HS1.out.2.2.2⟩, ?_⟩)
 refine hfO (i := 10) ?_
 simp only [Act.put, List.getElem_toArray, List.getElem_cons_zero, List.getElem_cons_succ, List.setIfInBounds_toArray, List.set_cons_zero, List.set_cons_succ]
 refine wcA #[.slice (some ⟨W2.drew.heap.size, 0, none⟩) 2 2] Tryz.call101 ((add2_yes W2.drew.heap.size (T - old.bal) v.bal _ (Blk.new W2.drew _ _) (by omega) v0 hT).mono ?_)
 rintro e w3 ⟨rfl, hw3⟩
 have S3 : w3.cell? ⟨n0, 0, none⟩ = some (.pointer (some ⟨b, 0, none⟩)) ∧ w3.cell? ⟨b, 4, none⟩ = some (.int .u64 T) ∧ w3.cell? ⟨n0 + 2, 0, none⟩ = some (.int .u64 old.bal) ∧ w3.cell? ⟨n0 + 1, 0, none⟩ = some (.int .u64 v.bal) := by rw [← hw3]; exact ⟨cell_alloc_some _ HS1.out.1, cell_alloc_some _ HS1.out.2.1, cell_alloc_some _ HS1.out.2.2.1, cell_alloc_some _ HS1.out.2.2.2⟩
 refine ⟨_, rfl, S3, ?_⟩
 have HZ : Hid (Kept (fun i => i = b ∨ i = m ∨ i = g) w w3 ∧ RegB w3 b m (.slice (some ⟨g, 0, none⟩) l.length cp) cap (countOf l) A T ∧ w3.ownsRow 0 68 7 (.slice (some ⟨g, 0, none⟩) l.length cp) l.length (flat l) ∧ Blk w3 n0 83 #[.pointer (some ⟨b, 0, none⟩)] ∧ Blk w3 (n0 + 1) 68 (cellsV v) ∧ Blk w3 (n0 + 2) 68 (cellsV old)) :=
  Lib.hid (hw3 ▸ ⟨HK2.out.drew.alloc _, (HG2.out.drewN 1).alloc _, World.ownsRow.alloc (w := W2.drew) HO2.out _, Blk.alloc (Blk.drew HP2.out) _, Blk.alloc (Blk.drew HE2.out) _, Blk.alloc (Blk.drew HN2.out) _⟩)
 clear HK2 HG2 HO2 HP2 HE2 HN2
 clear hw3
 simp only [Act.put, List.getElem_toArray, List.getElem_cons_zero, List.getElem_cons_succ, List.setIfInBounds_toArray, List.set_cons_zero, List.set_cons_succ]
 refine hfT (fun w' => w'.cell? ⟨n0, 0, none⟩ = some (.pointer (some ⟨b, 0, none⟩)) ∧ w'.cell? ⟨b, 4, none⟩ = some (.int .u64 T) ∧ w'.cell? ⟨n0 + 2, 0, none⟩ = some (.int .u64 old.bal) ∧ w'.cell? ⟨n0 + 1, 0, none⟩ = some (.int .u64 v.bal)) (m := 4) (f := 0) [11, 12, 13, 14] S3 ?_
 simp only [List.filterMap_cons, List.filterMap_nil, List.getElem?_toArray, List.getElem?_cons_zero, List.getElem?_cons_succ]
 show wpQuiet _ _ _ _ [_, _, _, _] _
 iterate 4 (go_big_quiet_step ((intros; rfl)))
 refine wpQuiet_nil ?_
 show Region.seqB _ _ _ _ _ = true ∧ _
 refine ⟨by kernel_rfl, ?_⟩
 simp only [Act.put, List.getElem_toArray, List.getElem_cons_zero, List.getElem_cons_succ, List.setIfInBounds_toArray, List.set_cons_zero, List.set_cons_succ, List.drop_succ_cons, List.drop_zero]
 clear S3 HS1
 have hmf : ∀ (fn : Fn) (first cap : Array Value) (w : World), (Instr.makeFunc fn first cap).run Tryz.prog w = .ok (.func fn first cap) w := fun _ _ _ _ => rfl
 go_wp2
 refine NoPanic.normal ?_
 go_wp2
 clear hmf
 have d0 := HZ.out.2.2.2.1.cell 0
 have d1 := HZ.out.2.1.cells.2.1
 refine wqT 7 ?_
 simp only [List.take_succ_cons, List.take_zero, List.drop_succ_cons, List.drop_zero]
 iterate 5 (go_big_quiet_step (fail))
 refine q_load_val 68 (.tmp 5) (n0 + 1) 0 v _ rfl rfl rfl (fun w h => by obtain ⟨n, rfl⟩ := h; exact (Blk.drewN HZ.out.2.2.2.2.1 n).range) Tryz.underlying68 rfl infoV ?_
 simp only [Act.put, List.setIfInBounds_toArray, List.set_cons_zero, List.set_cons_succ]
 repeat (go_big_quiet_step (fail))
 refine wpQuiet_nil ?_
 intro _ hw'
 obtain ⟨n1, hw''⟩ := hw'
 subst hw''
 obtain ⟨hos, hth⟩ := owns_set (w := w3.drewN n1) HZ.out.2.2.1 HI.out v
 have hos := Lib.hid hos
 refine wpList_store_mid rfl 68 _ _ rfl g (i * 7) (cellsV v) rfl rfl hth infoV (cellsV_one v) ?_
 have hk5 : Kept (fun i => i = g) (w3.drewN n1) ((w3.drewN n1).setCells g (i * 7) (cellsV v).toList) := Kept.setCells _ _ _ (Kept.refl _ _) (.inl rfl)
 have H5 : Hid (RegB ((w3.drewN n1).setCells g (i * 7) (cellsV v).toList) b m (.slice (some ⟨g, 0, none⟩) l.length cp) cap (countOf l) A T ∧ ((w3.drewN n1).setCells g (i * 7) (cellsV v).toList).ownsRow 0 68 7 (.slice (some ⟨g, 0, none⟩) l.length cp) l.length (flat (l.set i v)) ∧ Kept (fun i => i = b ∨ i = m ∨ i = g) w ((w3.drewN n1).setCells g (i * 7) (cellsV v).toList) ∧
   Blk ((w3.drewN n1).setCells g (i * 7) (cellsV v).toList) n0 83 #[.pointer (some ⟨b, 0, none⟩)] ∧ Blk ((w3.drewN n1).setCells g (i * 7) (cellsV v).toList) (n0 + 1) 68 (cellsV v) ∧ Blk ((w3.drewN n1).setCells g (i * 7) (cellsV v).toList) (n0 + 2) 68 (cellsV old)) :=
  Lib.hid ⟨(HZ.out.2.1.drewN n1).same (hk5.block b (HZ.out.2.1.1.lt) (fun e => hgb e.symm)) (hk5.block m (HZ.out.2.1.2.lt) (fun e => hgm e.symm)), hos.out, (HZ.out.1.drewN n1).trans hk5 (fun _ _ e => .inr (.inr e)),
   (Blk.drewN HZ.out.2.2.2.1 n1).kept hk5 (by omega), (Blk.drewN HZ.out.2.2.2.2.1 n1).kept hk5 (by omega), (Blk.drewN HZ.out.2.2.2.2.2 n1).kept hk5 (by omega)⟩
 clear hk5 hth d0 d1
 generalize (w3.drewN n1).setCells g (i * 7) (cellsV v).toList = W5 at *
 have HC := Lib.hid (closure_any b m cap n0 (n0 + 2) (n0 + 1) _ (countOf l) A T old v W5 H5.out.1 H5.out.2.2.2.1 H5.out.2.2.2.2.2 H5.out.2.2.2.2.1 HFO.out HV.out hTo.2.1 hA hTo.2.2.2 hob hT1 hT hTo.2.2.1 (by omega) hc2.1 (by omega))
 have HOS := Lib.hid H5.out.2.1
 go_wp2
 refine leaves_cons (f := 219) (args := #[.pointer (some ⟨n0, 0, none⟩), .pointer (some ⟨n0 + 2, 0, none⟩), .pointer (some ⟨n0 + 1, 0, none⟩)]) (by simp) (by simp [go_sem]) ?_
 refine (HC.out.2 _).mono ?_
 rintro e u' w6 ⟨rfl, rfl, hr6, hk6⟩
 refine ⟨_, results_tmp rfl _ _ _, rfl, H5.out.2.2.1.trans hk6 (fun _ _ h => h.elim .inl (fun h => .inr (.inl h))), ?_, ?_⟩
 ·have e1 : activeOf (l.set i v) = A - liveBal old + liveBal v := by rw [active_set HI.out, HAE.out]
  have e2 : totalOf (l.set i v) = T - old.bal + v.bal := by rw [total_set HI.out, HTE.out]
  rw [e1, e2]
  exact ⟨hr6.1, hr6.2.congr (fun q => count_upd HI.out v q)⟩
 ·exact owns_same H5.out.2.1 (fun j hj => by
   injection hj with hj
   subst hj
   exact hk6.block _ ((H5.out.2.1.lt _ rfl).2) (by rintro (h | h); exact hgb h; exact hgm h))
theorem setv_any (b cap : Nat) (S : Nat → Prop) (i : Int) (l : List Val) (v : Val) (w : World) (h : Reg w b S cap l) (hv : FitsV v) :
  Calls Tryz.prog 175 #[.pointer (some ⟨b, 0, none⟩), .int .i64 i, .agg (cellsV v)] w fun e w' =>
   ((i < 0 ∨ l.length ≤ i) ∧ e = .returned (.int .i64 7) ∧ Reg w' b S cap l ∧ Kept S w w') ∨
   ∃ (k : Nat) (old : Val), i = k ∧ l[k]? = some old ∧ ((totalOf l - old.bal + v.bal ≤ 18446744073709551615 ∧ e = .returned (.int .i64 0) ∧ Reg w' b S cap (l.set k v) ∧ Kept S w w') ∨ (18446744073709551615 < totalOf l - old.bal + v.bal ∧ e = .returned (.int .i64 10) ∧ Reg w' b S cap l ∧ Kept S w w')) := by
 have hreg := h
 obtain ⟨m, s, h1, h2, h3, h4, h5, h6, h7, hS⟩ := h
 obtain ⟨a, cp, rfl, _, _⟩ := owns_slice h2
 by_cases ho : i < 0 ∨ (l.length : Int) ≤ i
 ·exact (setv_index b l.length cp a i v w h1.cells.2.1 ho).mono fun e w' ⟨he, hb⟩ => .inl ⟨ho, he, hreg.below hb, Kept.of_below hb⟩
 ·obtain ⟨k, rfl⟩ : ∃ k : Nat, i = k := ⟨i.toNat, by omega⟩
  have hk : k < l.length := by omega
  obtain ⟨old, hold⟩ : ∃ old, l[k]? = some old := ⟨_, List.getElem?_eq_getElem hk⟩
  obtain ⟨g, rfl⟩ : ∃ g, a = some ⟨g, 0, none⟩ := by
   rcases h2.2 with ⟨_, h9⟩ | ⟨g, _, _, h9, _⟩
   ·omega
   ·injection h9 with h9; exact ⟨g, h9⟩
  have hown : ∀ i, (Value.slice (some ⟨g, 0, none⟩) l.length cp).ownBlock = some i ↔ i = g := fun i => by simp [Value.ownBlock, eq_comm]
  have hmore : ∀ w', Kept (fun i => i = b ∨ i = m ∨ i = g) w w' → Kept S w w' := fun w' hk => hk.more (fun i _ hi => (hS i).2 (hi.imp id (Or.imp id (fun e => (hown i).2 e))))
  by_cases he : v = old
  ·subst he
   have hset : l.set k v = l := by
    refine List.ext_getElem? fun j => ?_
    rw [List.getElem?_set]
    split
    ·rename_i hj; subst hj; rw [hold]; try simp [hk]
    ·rfl
   exact (setv_same b cap m cp g k l v w h1 h2 hold).mono fun e w' ⟨he, hb⟩ => .inr ⟨k, v, rfl, hold, .inl ⟨by omega, he, by rw [hset]; exact hreg.below hb, Kept.of_below hb⟩⟩
  ·by_cases ht : totalOf l - old.bal + v.bal ≤ 18446744073709551615
   ·refine (setv_ok b cap m cp g k l old v w h1 h2 hold he (by omega) h7 hv h6 ht).mono fun e w' ⟨he, hk', r1, r2⟩ => .inr ⟨k, old, rfl, hold, .inl ⟨ht, he, ⟨m, _, r1, by simpa using r2, h3, h4, by simpa using h5, ?_, ?_, hS⟩, hmore w' hk'⟩⟩
    ·rw [total_set hold]; exact ht
    ·intro x hx
     rcases List.mem_or_eq_of_mem_set hx with hx | rfl
     ·exact h7 x hx
     ·exact hv
   ·exact (setv_over b cap m cp g k l old v w h1 h2 hold he (by omega) h7 hv h6 (by omega)).mono fun e w' ⟨he, hk', r1, r2⟩ => .inr ⟨k, old, rfl, hold, .inr ⟨by omega, he, ⟨m, _, r1, r2, h3, h4, h5, h6, h7, hS⟩, hmore w' hk'⟩⟩
end
section
set_option maxRecDepth 100000
open Go Go.RowKit Go.Deep
theorem owns_base {w : World} {base : Nat} {e : TypeId} {k : Nat} {v : Value} {n : Nat} {xs : List Value} (h : w.ownsRow base e k v n xs) {B : Nat} (hB : B ≤ base) : w.ownsRow B e k v n xs := by
 refine ⟨h.1, h.2.imp id ?_⟩
 rintro ⟨g, cp, cur, rfl, h1, h2⟩
 exact ⟨g, cp, cur, rfl, by omega, h2⟩
theorem lst_src {w w' : World} {S : Nat → Prop} {a : Option Addr} {l : List Val} (h : Lst w S a l) (hb : Below w.heap.size w w') : 0 < l.length → ∃ ad, a = some ad ∧ ∀ j u, (flat l)[j]? = some u → w'.cell? (ad.add j) = some u := fun h0 => (h.below hb).flat h0
theorem clone_any (S : Nat → Prop) (a : Option Addr) (cp : Nat) (l : List Val) (w : World) (h : Lst w S a l) (hl : l.length ≤ 4096) :
  Calls Tryz.prog 25 #[.slice a l.length cp] w fun e w' => ∃ v, e = .returned v ∧ w'.ownsRow w.heap.size 68 7 v l.length (flat l) ∧ Below w.heap.size w w' := by
 have HL := Lib.hid h
 by_cases hn : a = none
 ·subst hn
  have h0 : l.length = 0 := by
   rcases Nat.eq_zero_or_pos l.length with h0 | h0
   ·exact h0
   ·obtain ⟨b, off, h1, _⟩ := h h0
    cases h1
  obtain rfl := List.eq_nil_of_length_eq_zero h0
  clear h HL
  have heq := fun (w : World) (a : Option Addr) (n c : Nat) => Lib.run_eql_slice_nil (P := Tryz.prog) w 22 68 a n c 0 0 Tryz.underlying22
  go_enter Tryz.func25, Tryz.ntmps25
  go_wp2
  go_ret
  exact ⟨_, rfl, World.ownsRow_nil _ _ _ _, Below.refl _ _⟩
 ·obtain ⟨ad, rfl⟩ := Option.ne_none_iff_exists'.1 hn
  obtain ⟨i, hi, hz, hs7, hby⟩ := val_app
  have hlen := flat_len l
  have HLEN := Lib.hid hlen
  clear h hn hlen
  have heq := fun (w : World) (a : Option Addr) (n c : Nat) => Lib.run_eql_slice_nil (P := Tryz.prog) w 22 68 a n c 0 0 Tryz.underlying22
  go_enter Tryz.func25, Tryz.ntmps25
  go_wp2_with (at_builtin; refine wpList_append_src _ rfl (.tmp 5) (.tmp 6) 22 rfl w.heap.size 68 i _ 7 56 Tryz.underlying22 hi hz hs7 hby (cellsV_size _) (by omega) (.slice (some ⟨w.heap.size, 0, none⟩) 0 0) 0 [] rfl (owns_empty (Blk.new w _ _) (Nat.le_refl _)) (some ad) l.length cp (flat l) rfl (by rw [HLEN.out]) (fun h0 => lst_src HL.out ((Below.refl _ _).alloc (Nat.le_refl _) _) h0) flat_mem (by unfold maxLen; omega) (by omega) (by simp) ?_; intro v w1 ho hg hv)
  have hZ : w1.ownsRow w.heap.size 68 7 v l.length (flat l) ∧ Below w.heap.size w w1 := by
   refine ⟨by simpa using ho, ?_⟩
   exact below_only ((Below.refl _ _).alloc (Nat.le_refl _) _) (g := w.heap.size) hg (by simp) (Nat.le_refl _)
  have HZ := Lib.hid hZ
  clear ho hg hv hZ hi hz hs7 hby
  go_wp2
  go_ret
  exact ⟨_, rfl, HZ.out⟩
theorem all_nil (w : World) : CallW 43 #[.pointer none] w (.slice none 0 0) := by
 go_enter Tryz.func43, Tryz.ntmps43
 go_wp2
 go_ret
 exact ⟨rfl, rfl⟩
theorem all_any (b cap : Nat) (S : Nat → Prop) (l : List Val) (w : World) (h : Reg w b S cap l) :
  Calls Tryz.prog 43 #[.pointer (some ⟨b, 0, none⟩)] w fun e w' => ∃ v, e = .returned v ∧ w'.ownsRow w.heap.size 68 7 v l.length (flat l) ∧ Below w.heap.size w w' := by
 obtain ⟨m, a, cp, x0, x1, x2, x3, x4, q1, q2, _, hL⟩ := h.cells
 have hl := h.fits
 have H := Lib.hid (clone_any _ a cp l w hL (by omega))
 clear h hL hl x0 x2 x3 x4
 go_enter Tryz.func43, Tryz.ntmps43
 go_wp2_with fail
 refine H.out.mono ?_
 rintro e w1 ⟨v, rfl, ho, hb⟩
 have HZ := Lib.hid (And.intro ho hb)
 clear ho hb H
 go_wp2_with fail
 go_ret
 exact ⟨_, rfl, HZ.out⟩
theorem get_any (b cap : Nat) (S : Nat → Prop) (i : Int) (l : List Val) (w : World) (h : Reg w b S cap l) :
  Calls Tryz.prog 126 #[.pointer (some ⟨b, 0, none⟩), .int .i64 i] w fun e w' => Below w.heap.size w w' ∧ (((i < 0 ∨ l.length ≤ i) ∧ e = .returned (.tuple #[.agg (cellsV val0), .bool false])) ∨ ∃ (k : Nat) (v : Val), i = k ∧ l[k]? = some v ∧ e = .returned (.tuple #[.agg (cellsV v), .bool true])) := by
 obtain ⟨m, a, cp, x0, x1, x2, x3, x4, q1, q2, _, hL⟩ := h.cells
 by_cases ho : i < 0 ∨ (l.length : Int) ≤ i
 ·refine (get_no (some ⟨b, 0, none⟩) i w (fun w' hb => ?_)).mono fun e w' ⟨he, hb⟩ => ⟨hb, .inl ⟨ho, he⟩⟩
  exact has_out b l.length cp a i w' ((hb.cell (p := ⟨b, 1, none⟩) (cell_lt x1)).trans x1) ho
 ·obtain ⟨k, rfl⟩ : ∃ k : Nat, i = k := ⟨i.toNat, by omega⟩
  have hk : k < l.length := by omega
  obtain ⟨v, hv⟩ : ∃ v, l[k]? = some v := ⟨_, List.getElem?_eq_getElem hk⟩
  obtain ⟨g, off, rfl, hr⟩ := hL.at hv
  exact (get_in b l.length cp k g off v w x1 hk hr).mono fun e w' ⟨he, hb⟩ => ⟨hb, .inr ⟨k, v, rfl, hv, he⟩⟩
end
section
set_option maxRecDepth 100000
open Go Go.RowKit Go.Deep
def bals (l : List Val) : List Int := l.map (·.bal)
theorem take_snoc {l : List Val} {k : Nat} {v : Val} (h : l[k]? = some v) : l.take (k + 1) = l.take k ++ [v] := by
 have hk := (List.getElem?_eq_some_iff.1 h).1
 rw [List.take_add_one, h]
 rfl
theorem sum_bals (l : List Val) : ∀ n, n ≤ l.length → sumTo (bals l) n = totalOf (l.take n)
 | 0, _ => by simp [sumTo, totalOf]
 | n + 1, h => by
  obtain ⟨v, hv⟩ : ∃ v, l[n]? = some v := ⟨_, List.getElem?_eq_getElem (by omega)⟩
  rw [take_snoc hv, total_append, sumTo, sum_bals l n (by omega)]
  simp [totalOf, bals, List.getD_eq_getElem?_getD, hv]
theorem sum_all (l : List Val) : sumTo (bals l) l.length = totalOf l := by rw [sum_bals l _ (Nat.le_refl _), List.take_length]
theorem u64_app : ∃ i, Tryz.prog.info? 23 = some i ∧ i.zero = some (.int .u64 0) ∧ i.size = 1 ∧ i.bytes = 8 := by
 have h : (Tryz.prog.info? 23).map (fun i => (i.zero, i.size, i.bytes)) = some (some (.int .u64 0), 1, 8) := by kernel_rfl
 cases hi : Tryz.prog.info? 23 with
 | none => rw [hi] at h; cases h
 | some i =>
  rw [hi] at h
  simp at h
  exact ⟨i, rfl, h.1, h.2.1, h.2.2⟩
def numsOf (l : List Val) : List Value := (bals l).map (.int .u64)
theorem nums_append (l m : List Val) : numsOf (l ++ m) = numsOf l ++ numsOf m := by simp [numsOf, bals]
theorem Lst.at2 {w : World} {S : Nat → Prop} {a : Option Addr} {l : List Val} (h : Lst w S a l) {i : Nat} {v : Val} (hi : l[i]? = some v) : ∃ b off, a = some ⟨b, off, none⟩ ∧ w.cell? ⟨b, off + i * 7, none⟩ = some (.int .u64 v.bal) ∧ w.cell? ⟨b, off + i * 7 + 1, none⟩ = some (.int .i64 v.st) ∧ w.rangeAt b (off + i * 7) v.row := by
 obtain ⟨b, off, h1, h2⟩ := h.at hi
 exact ⟨b, off, h1, h2 0 _ rfl, h2 1 _ rfl, h2⟩
set_option maxHeartbeats 800000 in
theorem balances_any (S : Nat → Prop) (a : Option Addr) (cp : Nat) (l : List Val) (w : World) (h : Lst w S a l) (hl : l.length ≤ 4096) :
  Calls Tryz.prog 65 #[.slice a l.length cp] w fun e w' => ∃ v, e = .returned v ∧ w'.ownsRow w.heap.size 23 1 v l.length (numsOf l) ∧ Below w.heap.size w w' := by
 have HL := Lib.hid h
 obtain ⟨n, hn⟩ := named (l.length)
 rw [hn] at hl ⊢
 have HN := Lib.hid hn
 obtain ⟨j0, hj0, hz0, hz1, hz2⟩ := u64_app
 clear h hn
 go_enter Tryz.func65, Tryz.ntmps65
 go_wp2
 go_loopw [3, 4] (fun s3 s4 wr => ∃ k : Nat, k ≤ n ∧ s4 = .int .i64 k ∧ Hid (wr.ownsRow w.heap.size 23 1 s3 k (numsOf (l.take k))) ∧ Below w.heap.size w wr) (fun _ s4 _ => n - (intOf s4).toNat)
 case atStart => exact ⟨0, by omega, rfl, Lib.hid (World.ownsRow_nil _ _ _ _), Below.refl _ _⟩
 case round =>
  obtain ⟨k, hk, rfl, HO, BR⟩ := hrel
  by_cases hlt : k < n
  ·obtain ⟨v, hv⟩ : ∃ v, l[k]? = some v := ⟨_, List.getElem?_eq_getElem (by have := HN.out; omega)⟩
   obtain ⟨b, off, rfl, e0, _, _⟩ := (HL.out.below BR).at2 hv
   have HV := Lib.hid hv
   clear hv
   go_wp2_with (at_builtin; refine wpList_append_src _ rfl (.tmp 11) (.tmp 17) 121 rfl w.heap.size 23 j0 _ 1 8 Tryz.underlying121 hj0 hz0 hz1 hz2 rfl Nat.one_pos u3 k (numsOf (l.take k)) rfl (HO.out.alloc _) (some ⟨wr.heap.size, 0, none⟩) 1 1 [.int .u64 v.bal] rfl rfl (fun _ => ⟨_, rfl, cell_one_new wr _ _⟩) (by simp [Value.oneCell']) (by unfold maxLen; omega) (by omega) (by have := BR.size; simp; omega) ?_; intro v1 w1 ho hg hv1)
   have hZ : w1.ownsRow w.heap.size 23 1 v1 (k + 1) (numsOf (l.take (k + 1))) ∧ Below w.heap.size w w1 := by
    refine ⟨by rw [take_snoc HV.out, nums_append]; exact ho, ?_⟩
    have hsz := BR.size
    refine (BR.alloc hsz _).grown hg (by simp; omega) (fun q hq => ?_)
    rcases HO.out.2 with ⟨h1, _⟩ | ⟨g, cp', cur, h1, h2, _⟩
    ·rw [h1] at hq; cases hq
    ·rw [h1] at hq; simp [Value.ownBlock] at hq; omega
   have HZ := Lib.hid hZ
   clear ho hg hv1 hZ e0 HO BR
   go_wp2
   go_roundw
   case rel => exact ⟨k + 1, by omega, by go_num, Lib.hid HZ.out.1, HZ.out.2⟩
   case measure => simp [intOf]; omega
  ·obtain rfl : k = n := by omega
   have hz : wr.ownsRow w.heap.size 23 1 u3 k (numsOf l) := by
    have := HO.out
    rwa [List.take_of_length_le (by rw [HN.out]; exact Nat.le_refl _)] at this
   have HZ := Lib.hid hz
   clear hlt hz
   have hlt : ¬ k < k := by omega
   go_wp2
   go_ret
   exact ⟨_, rfl, HZ.out, BR⟩
theorem num_at {w : World} {base g n cp : Nat} {l : List Val} (h : w.ownsRow base 23 1 (.slice (some ⟨g, 0, none⟩) n cp) n (numsOf l)) (hl : l.length = n) : ∀ i, i < n → w.cell? ⟨g, 0 + i, none⟩ = some (.int .u64 ((bals l).getD i 0)) := fun i hi => by
 have e : (numsOf l)[i]? = some (.int .u64 ((bals l).getD i 0)) := by
  simp only [numsOf, bals, List.map_map, List.getElem?_map, List.getD_eq_getElem?_getD, List.getElem?_eq_getElem (by omega : i < l.length)]
  rfl
 have := h.cells (g := g) rfl i _ e
 rwa [add_plain] at this
theorem bals_range {l : List Val} (h : ∀ v ∈ l, FitsV v) (i : Nat) : 0 ≤ (bals l).getD i 0 ∧ (bals l).getD i 0 ≤ 18446744073709551615 := by
 rw [List.getD_eq_getElem?_getD, bals, List.getElem?_map]
 cases hi : l[i]? with
 | none => simp
 | some v => exact (h v (List.mem_of_getElem? hi)).bal
theorem refsum_any (v : Value) (base : Nat) (l : List Val) (w : World) (h : w.ownsRow base 23 1 v l.length (numsOf l)) (hl : l.length ≤ 4096) (hf : ∀ v ∈ l, FitsV v) :
  CallD 67 #[v] w (.tuple #[.int .u64 (if totalOf l ≤ 18446744073709551615 then totalOf l else 0), .bool (decide (totalOf l ≤ 18446744073709551615))]) := by
 rcases h.2 with ⟨rfl, h0⟩ | ⟨g, cp, cur, rfl, _⟩
 ·obtain rfl := List.eq_nil_of_length_eq_zero h0
  exact (refadd_none none 0 w).mono fun e w' ⟨he, hw⟩ => ⟨by rw [he]; simp [totalOf], 0, hw.symm⟩
 ·have := refadd_row g 0 l.length cp (bals l) w (by omega) (num_at h rfl) (bals_range hf)
  refine this.mono fun e w' ⟨he, m, hm⟩ => ⟨?_, m, hm⟩
  rw [he, addQ, addOk, sum_all]
end
section
open Go Go.RowKit
set_option maxRecDepth 100000
structure An where
 bk : Int
 ep : Int
 V : List Val
 D : Int
 P : Int
 B : Int
 ac : Int
 pd : List Int
 F : List Int
 W : List Int
 mn : Nat
 tn : Nat
 un : Int
def lvB (v : Val) : Bool := decide (3 ≤ v.st ∧ v.st ≤ 6)
def isP (v : Val) : Bool := decide (v.st = 1)
def isE (v : Val) : Bool := decide (v.st = 3 ∧ v.ex = -1)
def isU (v : Val) : Bool := decide (v.st = 4 ∨ v.st = 3 ∧ v.ex ≠ -1)
def finB (s : Int) : Bool := decide (s = 6 ∨ s = 7)
def okE (c : Nat → Int) (v : Val) : Bool := decide (v.ex = -1 ∨ (3 ≤ v.st ∧ v.st ≤ 6) ∧ v.rq < v.ex ∧ c 10 ≤ v.wd - v.ex)
def okZ (v : Val) : Bool := decide (v.bal = 0 ∨ ¬ (v.st = 6 ∨ v.st = 7))
def okS (v : Val) : Bool := decide (v.sl = false ∨ (3 ≤ v.st ∧ v.st ≤ 6) ∧ v.dl = -1)
def exactB (q : List Int) (V : List Val) (p : Val → Bool) : Bool :=
 ((List.range V.length).all fun i => !p (V.getD i val0) || decide (q.count (i : Int) = 1)) && decide (q.length = V.countP p)
def ruleB (c : Nat → Int) (s : An) : Nat → Bool
 | 0 => decide ((s.V.length : Int) ≤ c 0)
 | 1 => decide (totalOf s.V + s.P + s.B = s.D)
 | 2 => decide (totalOf s.V ≤ c 4)
 | 3 => decide (activeOf s.V = s.ac)
 | 4 => exactB s.pd s.V isP
 | 5 => exactB (s.F ++ s.W) s.V isE
 | 6 => s.V.all (okE c)
 | 7 => s.V.all okZ
 | 8 => decide (s.un = (s.V.countP isU : Nat))
 | 9 => decide ((s.pd.length : Int) ≤ c 1 ∧ (s.F.length : Int) ≤ c 1 ∧ (s.W.length : Int) ≤ c 1 ∧ (s.mn : Int) ≤ c 1 ∧ (s.tn : Int) ≤ c 1)
 | 10 => decide (0 ≤ s.bk ∧ s.ep = s.bk / c 13)
 | _ => s.V.all okS
def violK (c : Nat → Int) (s : An) : Nat → List Int
 | 0 => []
 | k + 1 => violK c s k ++ if ruleB c s k = true then [] else [(k : Int) + 1]
def firstV (c : Nat → Int) (s : An) : Int := (violK c s 12).headD 0
theorem viol_yes {c : Nat → Int} {s : An} {k : Nat} (h : ruleB c s k = true) : violK c s (k + 1) = violK c s k := by simp [violK, h]
theorem viol_no {c : Nat → Int} {s : An} {k : Nat} (h : ruleB c s k = false) : violK c s (k + 1) = violK c s k ++ [(k : Int) + 1] := by simp [violK, h]
theorem viol_head {c : Nat → Int} {s : An} {k : Nat} {x : Int} {l : List Int} (h : violK c s k = x :: l) : ∀ d, ∃ l', violK c s (k + d) = x :: l'
 | 0 => ⟨l, h⟩
 | d + 1 => by
  obtain ⟨l', hl⟩ := viol_head h d
  exact ⟨_, by rw [← Nat.add_assoc, violK, hl, List.cons_append]⟩
theorem first_at {c : Nat → Int} {s : An} {k : Nat} (hk : k < 12) (h0 : violK c s k = []) (h : ruleB c s k = false) : firstV c s = (k : Int) + 1 := by
 have h1 := viol_no h
 rw [h0, List.nil_append] at h1
 obtain ⟨l', hl⟩ := viol_head h1 (12 - (k + 1))
 rw [show k + 1 + (12 - (k + 1)) = 12 by omega] at hl
 unfold firstV
 rw [hl]
 rfl
theorem first_none {c : Nat → Int} {s : An} (h0 : violK c s 12 = []) : firstV c s = 0 := by unfold firstV; rw [h0]; rfl
theorem viol_len (c : Nat → Int) (s : An) : ∀ k, (violK c s k).length ≤ k
 | 0 => Nat.le_refl _
 | k + 1 => by
  have := viol_len c s k
  rw [violK, List.length_append]
  split <;> simp <;> omega
theorem viol_mem (c : Nat → Int) (s : An) : ∀ k, ∀ x ∈ violK c s k, 1 ≤ x ∧ x ≤ k
 | 0, x, h => by simp [violK] at h
 | k + 1, x, h => by
  rw [violK, List.mem_append] at h
  rcases h with h | h
  ·have := viol_mem c s k x h; omega
  ·split at h
   ·simp at h
   ·simp at h; omega
theorem viol_up (c : Nat → Int) (s : An) : ∀ k, (violK c s k).Pairwise (· < ·)
 | 0 => List.Pairwise.nil
 | k + 1 => by
  rw [violK, List.pairwise_append]
  refine ⟨viol_up c s k, by split <;> simp, fun a ha b hb => ?_⟩
  have := viol_mem c s k a ha
  split at hb
  ·simp at hb
  ·simp at hb; omega
def sumF (f : Nat → Nat) : Nat → Nat
 | 0 => 0
 | k + 1 => sumF f k + f k
theorem sumF_add (f g : Nat → Nat) : ∀ n, sumF (fun i => f i + g i) n = sumF f n + sumF g n
 | 0 => rfl
 | n + 1 => by simp only [sumF, sumF_add f g n]; omega
theorem sumF_congr {f g : Nat → Nat} : ∀ n, (∀ i, i < n → f i = g i) → sumF f n = sumF g n
 | 0, _ => rfl
 | n + 1, h => by rw [sumF, sumF, sumF_congr n (fun i hi => h i (by omega)), h n (by omega)]
theorem sumF_le {f g : Nat → Nat} : ∀ n, (∀ i, i < n → f i ≤ g i) → sumF f n ≤ sumF g n
 | 0, _ => Nat.le_refl _
 | n + 1, h => by have := sumF_le n (fun i hi => h i (by omega)); have := h n (by omega); simp only [sumF]; omega
theorem sumF_same {f g : Nat → Nat} : ∀ n, (∀ i, i < n → f i ≤ g i) → sumF g n ≤ sumF f n → ∀ i, i < n → f i = g i
 | 0, _, _, i, hi => by omega
 | n + 1, h, hs, i, hi => by
  have h1 := sumF_le n (fun i hi => h i (by omega))
  have h2 := h n (by omega)
  simp only [sumF] at hs
  by_cases e : i = n
  ·subst e; omega
  ·exact sumF_same n (fun i hi => h i (by omega)) (by omega) i (by omega)
theorem sumF_one (a : Int) : ∀ n : Nat, sumF (fun i => if a = (i : Int) then 1 else 0) n ≤ 1 ∧ ((n : Int) ≤ a → sumF (fun i => if a = (i : Int) then 1 else 0) n = 0)
 | 0 => ⟨by simp [sumF], fun _ => rfl⟩
 | n + 1 => by
  obtain ⟨h1, h2⟩ := sumF_one a n
  simp only [sumF]
  by_cases h : a = (n : Int)
  ·have := h2 (by omega)
   rw [if_pos h]
   exact ⟨by omega, fun h3 => by omega⟩
  ·rw [if_neg h]
   exact ⟨by omega, fun h3 => h2 (by omega)⟩
theorem sum_count (n : Nat) : ∀ q : List Int, sumF (fun i => q.count (i : Int)) n ≤ q.length
 | [] => by
  have : ∀ n, sumF (fun i => ([] : List Int).count (i : Int)) n = 0 := fun n => by
   induction n with
   | zero => rfl
   | succ n ih => simpa [sumF] using ih
  rw [this]; exact Nat.zero_le _
 | a :: q => by
  have h := sum_count n q
  have e : sumF (fun i => (a :: q).count (i : Int)) n = sumF (fun i => q.count (i : Int)) n + sumF (fun i => if a = (i : Int) then 1 else 0) n := by
   rw [← sumF_add]
   refine sumF_congr n fun i _ => ?_
   rw [List.count_cons]
   simp [beq_iff_eq]
  have := (sumF_one a n).1
  rw [e, List.length_cons]; omega
theorem sum_countP (p : Val → Bool) (V : List Val) : ∀ n, n ≤ V.length → sumF (fun i => if p (V.getD i val0) = true then 1 else 0) n = (V.take n).countP p
 | 0, _ => by simp [sumF]
 | n + 1, h => by
  rw [sumF, sum_countP p V n (by omega)]
  have hv : V[n]? = some V[n] := List.getElem?_eq_getElem (by omega)
  rw [take_snoc hv, List.countP_append, List.getD_eq_getElem?_getD, hv]
  simp only [Option.getD_some, List.countP_cons, List.countP_nil, Nat.zero_add]
def onceI (q : List Int) (b : Bool) (i : Nat) : Bool := decide (q.count (i : Int) ≤ 1) && (decide (q.count (i : Int) = 1) == b)
def onceB (q : List Int) (z : List Bool) : Bool := ((List.range z.length).all fun i => onceI q (z.getD i false) i) && decide (sumF (fun i => q.count (i : Int)) z.length = q.length)
theorem once_exact (q : List Int) (V : List Val) (p : Val → Bool) : onceB q (V.map p) = exactB q V p := by
 have hP := sum_countP p V V.length (Nat.le_refl _)
 rw [List.take_length] at hP
 have hgd : ∀ i, i < V.length → (V.map p).getD i false = p (V.getD i val0) := fun i hi => by
  simp [List.getD_eq_getElem?_getD, List.getElem?_eq_getElem hi]
 rw [Bool.eq_iff_iff]
 unfold onceB exactB
 simp only [List.length_map, Bool.and_eq_true, List.all_eq_true, List.mem_range, decide_eq_true_eq, Bool.or_eq_true, Bool.not_eq_true', onceI, beq_iff_eq]
 constructor
 ·rintro ⟨h1, h2⟩
  have hk : ∀ i, i < V.length → q.count (i : Int) = if p (V.getD i val0) = true then 1 else 0 := fun i hi => by
   obtain ⟨h3, h4⟩ := h1 i hi
   rw [hgd i hi] at h4
   cases hp : p (V.getD i val0) with
   | true => rw [hp] at h4; simpa using h4
   | false => rw [hp] at h4; simp at h4 ⊢; omega
  refine ⟨fun i hi => ?_, ?_⟩
  ·rw [hk i hi]
   cases hp : p (V.getD i val0) <;> simp
  ·rw [← h2, sumF_congr _ hk, hP]
 ·rintro ⟨h1, h2⟩
  have hle : ∀ i, i < V.length → (if p (V.getD i val0) = true then 1 else 0) ≤ q.count (i : Int) := fun i hi => by
   rcases h1 i hi with h3 | h3
   ·rw [h3]; simp
   ·split <;> omega
  have hs := sumF_same V.length hle (by rw [hP, ← h2]; exact sum_count _ q)
  refine ⟨fun i hi => ?_, ?_⟩
  ·rw [hgd i hi, ← hs i hi]
   cases hp : p (V.getD i val0) <;> simp
  ·rw [← sumF_congr _ hs, hP, h2]
theorem total_live (V : List Val) : totalOf (V.filter fun v => liveB v.st) = activeOf V := by
 induction V with
 | nil => rfl
 | cons v l ih =>
  rw [List.filter_cons]
  by_cases h : liveB v.st = true
  ·rw [if_pos h, totalOf, activeOf, ih, liveBal, if_pos h]
  ·rw [if_neg h, activeOf, ih, liveBal, if_neg h]; omega
theorem filter_true (V : List Val) : totalOf (V.filter fun _ => true) = totalOf V := by rw [List.filter_eq_self.2 (fun _ _ => rfl)]
theorem all_count (p : Val → Bool) (V : List Val) : decide (V.countP p = V.length) = V.all p := by
 rw [Bool.eq_iff_iff, decide_eq_true_eq, List.countP_eq_length, List.all_eq_true]
theorem countP_snoc {V : List Val} {k : Nat} {v : Val} (p : Val → Bool) (h : V[k]? = some v) : (V.take (k + 1)).countP p = (V.take k).countP p + if p v = true then 1 else 0 := by
 rw [take_snoc h, List.countP_append]
 simp [List.countP_cons]
theorem filter_snoc {V : List Val} {k : Nat} {v : Val} (p : Val → Bool) (h : V[k]? = some v) : (V.take (k + 1)).filter p = (V.take k).filter p ++ if p v = true then [v] else [] := by
 rw [take_snoc h, List.filter_append]
 congr 1
 rw [List.filter_cons]
 rfl
end
section
set_option maxRecDepth 100000
open Go Go.ChangeShapes Go.WideShapes Go.RowKit Go.Deep
def pairRow (p : Int × Int) : List Value := [.int .i64 p.1, .int .i64 p.2]
end
section
open Go Go.ChangeShapes Go.WideShapes Go.RowKit Go.Deep
theorem rangeAt_same {w w' : World} {b o : Nat} {cs : List Value} (h : w.rangeAt b o cs) (hb : w'.heap[b]? = w.heap[b]?) : w'.rangeAt b o cs := fun j v hv => (World.cell?_of_block (w := w) (a := ⟨b, o + j, none⟩) hb).trans (h j v hv)
section
variable {α : Type} {row : α → List Value} {k : Nat}
def flatR (row : α → List Value) (l : List α) : List Value := l.flatMap row
theorem flatR_len (hk : ∀ v, (row v).length = k) (l : List α) : (flatR row l).length = l.length * k := by
 induction l with
 | nil => simp [flatR]
 | cons x l ih => simp only [flatR, List.flatMap_cons, List.length_append, hk, List.length_cons] at ih ⊢; rw [ih, Nat.succ_mul]; omega
theorem flatR_at (hk : ∀ v, (row v).length = k) {l : List α} {i : Nat} {v : α} (h : l[i]? = some v) {j : Nat} (hj : j < k) : (flatR row l)[i * k + j]? = (row v)[j]? := by
 induction l generalizing i with
 | nil => simp at h
 | cons x l ih =>
  cases i with
  | zero =>
   simp at h
   subst h
   simp only [flatR, List.flatMap_cons, Nat.zero_mul, Nat.zero_add]
   rw [List.getElem?_append_left (by rw [hk]; exact hj)]
  | succ i =>
   simp only [List.getElem?_cons_succ] at h
   have := ih h
   simp only [flatR, List.flatMap_cons] at this ⊢
   rw [List.getElem?_append_right (by rw [hk, Nat.succ_mul]; omega), hk, show (i + 1) * k + j - k = i * k + j by rw [Nat.succ_mul]; omega]
   exact this
theorem rangeR_of_flat (hk : ∀ v, (row v).length = k) {w : World} {b off : Nat} {l : List α} (h : ∀ j u, (flatR row l)[j]? = some u → w.cell? ⟨b, off + j, none⟩ = some u) {i : Nat} {v : α} (hi : l[i]? = some v) : w.rangeAt b (off + i * k) (row v) := by
 intro j u hu
 have hj : j < k := by rw [← hk v]; exact (List.getElem?_eq_some_iff.1 hu).1
 rw [Nat.add_assoc]
 exact h _ _ ((flatR_at hk hi hj).trans hu)
theorem flatR_of_range (hk : ∀ v, (row v).length = k) (h0 : 0 < k) {w : World} {b off : Nat} {l : List α} (h : ∀ i v, l[i]? = some v → w.rangeAt b (off + i * k) (row v)) : ∀ j u, (flatR row l)[j]? = some u → w.cell? ⟨b, off + j, none⟩ = some u := by
 intro j u hu
 have hj : j < l.length * k := by rw [← flatR_len hk]; exact (List.getElem?_eq_some_iff.1 hu).1
 have hq : j / k < l.length := Nat.div_lt_of_lt_mul (by rwa [Nat.mul_comm])
 have hr : j % k < k := Nat.mod_lt _ h0
 have hd : j / k * k + j % k = j := by rw [Nat.mul_comm]; exact Nat.div_add_mod j k
 have e := flatR_at hk (List.getElem?_eq_getElem hq) hr
 rw [hd, hu] at e
 have := h _ _ (List.getElem?_eq_getElem hq) (j % k) u e.symm
 rwa [show off + j / k * k + j % k = off + j by omega] at this
def LstR (row : α → List Value) (k : Nat) (w : World) (S : Nat → Prop) (a : Option Addr) (l : List α) : Prop :=
 0 < l.length → ∃ b off, a = some ⟨b, off, none⟩ ∧ ¬ S b ∧ b < w.heap.size ∧ ∀ i v, l[i]? = some v → w.rangeAt b (off + i * k) (row v)
variable {w w' : World} {S T : Nat → Prop} {a : Option Addr} {l : List α} {B : Nat} {e : TypeId}
theorem LstR.nil (w : World) (S : Nat → Prop) (a : Option Addr) : LstR row k w S a ([] : List α) := fun h => by simp at h
theorem LstR.same (h : LstR row k w S a l) (hs : w.heap.size ≤ w'.heap.size) (hb : ∀ b, b < w.heap.size → ¬ S b → w'.heap[b]? = w.heap[b]?) : LstR row k w' S a l := fun h0 => by
 obtain ⟨b, off, h1, h2, h3, h4⟩ := h h0
 exact ⟨b, off, h1, h2, by omega, fun i v hi => rangeAt_same (h4 i v hi) (hb b h3 h2)⟩
theorem LstR.below (h : LstR row k w S a l) (hb : Below w.heap.size w w') : LstR row k w' S a l := h.same hb.size fun b hlt _ => hb.block b hlt
theorem LstR.kept (h : LstR row k w S a l) (hb : Kept S w w') : LstR row k w' S a l := h.same hb.size fun b hlt hn => hb.block b hlt hn
theorem LstR.alloc (h : LstR row k w S a l) (o : Obj) : LstR row k (w.alloc o) S a l := h.same (by simp) fun b hlt _ => Below.heap_alloc w o b hlt
theorem LstR.more (h : LstR row k w S a l) (hT : ∀ i, i < w.heap.size → T i → S i) : LstR row k w T a l := fun h0 => by
 obtain ⟨b, off, h1, h2, h3, h4⟩ := h h0
 exact ⟨b, off, h1, fun ht => h2 (hT b h3 ht), h3, h4⟩
theorem LstR.at (h : LstR row k w S a l) {i : Nat} {v : α} (hi : l[i]? = some v) : ∃ b off, a = some ⟨b, off, none⟩ ∧ ¬ S b ∧ b < w.heap.size ∧ w.rangeAt b (off + i * k) (row v) := by
 obtain ⟨b, off, h1, h2, h3, h4⟩ := h (by have := (List.getElem?_eq_some_iff.1 hi).1; omega)
 exact ⟨b, off, h1, h2, h3, h4 i v hi⟩
theorem LstR.take (h : LstR row k w S a l) (n : Nat) : LstR row k w S a (l.take n) := fun h0 => by
 obtain ⟨b, off, h1, h2, h3, h4⟩ := h (by rw [List.length_take] at h0; omega)
 refine ⟨b, off, h1, h2, h3, fun i v hi => h4 i v ?_⟩
 rw [List.getElem?_take] at hi
 split at hi
 ·exact hi
 ·cases hi
theorem LstR.flat (hk : ∀ v, (row v).length = k) (hp : 0 < k) (h : LstR row k w S a l) (h0 : 0 < l.length) : ∃ ad, a = some ad ∧ ∀ j u, (flatR row l)[j]? = some u → w.cell? (ad.add j) = some u := by
 obtain ⟨b, off, h1, _, _, h4⟩ := h h0
 refine ⟨⟨b, off, none⟩, h1, fun j u hu => ?_⟩
 rw [add_plain]
 exact flatR_of_range hk hp h4 j u hu
variable {s : Value} {n : Nat} {xs : List Value}
theorem ownsR_same (h : w.ownsRow B e k s n xs) (hb : ∀ i, s.ownBlock = some i → w'.heap[i]? = w.heap[i]?) : w'.ownsRow B e k s n xs := by
 refine ⟨h.1, h.2.imp id ?_⟩
 rintro ⟨g, cp, cur, rfl, h1, h2, h3⟩
 exact ⟨g, cp, cur, rfl, h1, (hb g rfl).trans h2, h3⟩
theorem ownsR_base (h : w.ownsRow B e k s n xs) {C : Nat} (hB : C ≤ B) : w.ownsRow C e k s n xs := by
 refine ⟨h.1, h.2.imp id ?_⟩
 rintro ⟨g, cp, cur, rfl, h1, h2⟩
 exact ⟨g, cp, cur, rfl, by omega, h2⟩
theorem ownsR_below (h : w.ownsRow B e k s n xs) (hb : Below w.heap.size w w') : w'.ownsRow B e k s n xs := ownsR_same h fun i hi => hb.block i (h.lt i hi).2
theorem ownsR_kept (h : w.ownsRow B e k s n xs) (hb : Kept S w w') (hS : ∀ i, s.ownBlock = some i → ¬ S i) : w'.ownsRow B e k s n xs := ownsR_same h fun i hi => hb.block i (h.lt i hi).2 (hS i hi)
theorem ownsR_blk (h : w.ownsRow B e k s n xs) {i : Nat} (hi : s.ownBlock = some i) : ∃ cur, Blk w i e cur ∧ B ≤ i := by
 rcases h.2 with ⟨rfl, _⟩ | ⟨g, cp, cur, rfl, h1, h2, _⟩
 ·cases hi
 ·simp only [Value.ownBlock, Option.some.injEq] at hi
  subst hi
  exact ⟨cur, h2, h1⟩
theorem newR_cells (w : World) (t : TypeId) (cs : List Value) : ∀ j u, cs[j]? = some u → (w.alloc (.cells cs.toArray t)).cell? ((⟨w.heap.size, 0, none⟩ : Addr).add j) = some u := fun j u hu => by
 rw [add_plain, (Blk.new w t cs.toArray).cell]
 simpa using hu
theorem ownsR_lst (hk : ∀ v, (row v).length = k) (h : w.ownsRow B e k s n (flatR row l)) (hl : l.length = n) (hS : ∀ i, s.ownBlock = some i → ¬ S i) : ∃ a cp, s = .slice a n cp ∧ n ≤ cp ∧ cp ≤ maxLen ∧ LstR row k w S a l := by
 rcases h.2 with ⟨rfl, h0⟩ | ⟨g, cp, cur, rfl, h1, h2, h3, h4, h5⟩
 ·subst h0
  refine ⟨none, 0, rfl, by omega, by unfold maxLen; omega, fun h => by omega⟩
 ·refine ⟨_, cp, rfl, h3, h4, fun h0 => ⟨g, 0, rfl, hS g rfl, (Array.getElem?_eq_some_iff.1 h2).1, fun i v hi => ?_⟩⟩
  exact rangeR_of_flat hk (fun j u hu => by
   have := h.cells (g := g) rfl j u hu
   rwa [add_plain] at this) hi
end
theorem rangeR_of_cells {w : World} {base b off n : Nat} {cs : List Value} (h : w.cells? base ((⟨b, off, none⟩ : Addr).add n) cs.length = some cs) : w.rangeAt b (off + n) cs := fun j v hv => by
 obtain ⟨_, _, h2⟩ := World.cells?_some h
 have := h2 j (List.getElem?_eq_some_iff.1 hv).1
 rw [add_plain, add_plain] at this
 exact this.trans hv
def IsLstR {α : Type} (row : α → List Value) (k : Nat) (Fit : α → Prop) (w : World) (a : Option Addr) (len cap : Nat) : Prop :=
 len ≤ cap ∧ cap ≤ maxLen ∧ ∃ l : List α, l.length = len ∧ (∀ v ∈ l, Fit v) ∧ LstR row k w (fun _ => False) a l
section
variable {α : Type} [Inhabited α] {row : α → List Value} {k : Nat} {Fit : α → Prop} {H : Type} {enc : TypeId × Value → H} {P : Program} {w : World} {base : Nat} {held : Bool}
theorem lstR_of_trod {t e : TypeId} {n : Nat} {v : Value} {y : DataW H × List MemPlace} (ht : P.underlying t = some (.slice e)) (hC : P.cellsOf e = k) (hk : ∀ v, (row v).length = k) (hp : 0 < k)
  (htr : ∀ (n : Nat) (cs : List Value) (x : DataW H × List MemPlace), DataW.trod enc P w base (fun _ => true) held n e cs = some x → cs.length = k → ∃ v : α, cs = row v ∧ Fit v)
  (hf : DataW.trod enc P w base (fun _ => true) held n t [v] = some y) : ∃ (a : Option Addr) (len cap : Nat), v = .slice a len cap ∧ IsLstR row k Fit w a len cap := by
 rcases open_slice ht hf with h0 | ⟨x, l, c, m, n, D, Pl, hcs, hb, hl, hm, hmm, hx, hi⟩
 ·have hcs := h0.1
  injection hcs with hcs
  exact ⟨none, 0, 0, hcs, by omega, by unfold maxLen; omega, [], rfl, by simp, LstR.nil _ _ _⟩
 ·injection hcs with hcs
  rw [hC] at hi
  obtain ⟨f, hfv⟩ := choose_lt (α := α) (p := fun i v => w.cells? base (x.add (i * k)) k = some (row v) ∧ Fit v) (n := l) (fun i hil => by
   obtain ⟨cs', h1, h2⟩ := hi i (by rw [hmm]; simp; omega)
   obtain ⟨v, rfl, hfit⟩ := htr _ _ _ h2 (World.cells?_some h1).2.1
   exact ⟨v, h1, hfit⟩)
  refine ⟨some x, l, c, by simpa using hcs, by simpa using hl, hm, (List.range l).map f, by simp, fun v hv => ?_, fun h0 => ?_⟩
  ·obtain ⟨i, hi', rfl⟩ := List.mem_map.1 hv
   exact (hfv i (by simpa using hi')).2
  ·simp at h0
   obtain ⟨b, off, spot⟩ := x
   have hc0 := (World.cells?_some (hfv 0 h0).1).2.2 0 hp
   rw [Nat.zero_mul] at hc0
   have hl0 : 0 < (row (f 0)).length := by rw [hk]; exact hp
   rw [List.getElem?_eq_getElem hl0] at hc0
   have hs : spot = none := by
    have := World.cell?_spot hc0
    simpa [Addr.add] using this
   subst hs
   refine ⟨b, off, rfl, fun h => h, by have := cell_lt hc0; rwa [add_plain, add_plain] at this, fun i v hiv => ?_⟩
   simp only [List.getElem?_map] at hiv
   have hil : i < l := by
    rcases Nat.lt_or_ge i l with h | h
    ·exact h
    ·simp [h] at hiv
   simp [hil] at hiv
   subst hiv
   exact rangeR_of_cells (base := base) (by rw [hk]; exact (hfv i hil).1)
end
end
section
open Go Go.RowKit Go.Deep
set_option maxRecDepth 100000
def BV (w W : World) (v : Val) : Prop := Blk W w.heap.size 68 (cellsV v) ∧ Below w.heap.size w W
theorem BV.new (w : World) (v : Val) : BV w (w.alloc (.cells (cellsV v) 68)) v := ⟨Blk.new w _ _, (Below.refl _ _).alloc (Nat.le_refl _) _⟩
theorem BV.next {w W W' : World} {v : Val} (h : BV w W v) (hb : Below W.heap.size W W') : BV w W' v := ⟨h.1.below hb h.1.lt, h.2.trans (hb.mono h.2.size)⟩
theorem BV.cells {w W : World} {v : Val} (h : BV w W v) : W.cell? ⟨w.heap.size, 0, none⟩ = some (.int .u64 v.bal) ∧ W.cell? ⟨w.heap.size, 1, none⟩ = some (.int .i64 v.st) ∧ W.cell? ⟨w.heap.size, 2, none⟩ = some (.bool v.sl) ∧ W.cell? ⟨w.heap.size, 3, none⟩ = some (.int .i64 v.rq) ∧ W.cell? ⟨w.heap.size, 4, none⟩ = some (.int .i64 v.ex) ∧ W.cell? ⟨w.heap.size, 5, none⟩ = some (.int .i64 v.wd) ∧ W.cell? ⟨w.heap.size, 6, none⟩ = some (.int .i64 v.dl) :=
 ⟨h.1.cell 0, h.1.cell 1, h.1.cell 2, h.1.cell 3, h.1.cell 4, h.1.cell 5, h.1.cell 6⟩
theorem final_any (s : Int) (w : World) : CallW 112 #[.int .i64 s] w (.bool (finB s)) := by
 by_cases h : s = 6
 ·have e : finB s = true := decide_eq_true (.inl h)
  subst h
  rw [e]
  go_enter Tryz.func112, Tryz.ntmps112
  go_wp2
  go_ret
  exact ⟨rfl, rfl⟩
 ·have d : (s == 6) = false := by simpa using h
  by_cases h2 : s = 7
  ·have e : finB s = true := decide_eq_true (.inr h2)
   subst h2
   rw [e]
   go_enter Tryz.func112, Tryz.ntmps112
   go_wp2
   go_ret
   exact ⟨rfl, rfl⟩
  ·have d2 : (s == 7) = false := by simpa using h2
   have e : finB s = false := decide_eq_false (by omega)
   rw [e]
   clear h h2 e
   go_enter Tryz.func112, Tryz.ntmps112
   go_wp2
   go_ret
   exact ⟨rfl, rfl⟩
theorem leaving_any (v : Val) (w : World) : CallB 110 #[.agg (cellsV v)] w (.bool (lvB v)) := by
  have T := Lib.hid (BV.new w v)
  obtain ⟨r, hr⟩ := named (lvB v)
  rw [hr]
  have HR : Hid (r = decide (3 ≤ v.st ∧ v.st ≤ 6)) := Lib.hid hr.symm
  clear hr
  have hc : v.st = 3 ∨ v.st = 4 ∨ v.st = 5 ∨ v.st = 6 ∨ (¬ v.st = 3 ∧ ¬ v.st = 4 ∧ ¬ v.st = 5 ∧ ¬ v.st = 6) := by omega
  go_enter Tryz.func110, Tryz.ntmps110
  go_upto_region 1 with (fail)
  generalize w.alloc (.cells (cellsV v) 68) = W at *
  obtain ⟨x0, x1, x2, x3, x4, x5, x6⟩ := T.out.cells
  clear x0 x2 x3 x4 x5 x6
  rcases hc with h | h | h | h | ⟨h1, h2, h3, h4⟩
  all_goals first
    | (rw [h] at x1
       have hr : r = true := by rw [HR.out, h]; rfl
       subst hr
       clear h
       go_wp2
       go_ret
       exact ⟨rfl, T.out.2⟩)
    | (have d1 : (v.st == 3) = false := by simpa using h1
       have d2 : (v.st == 4) = false := by simpa using h2
       have d3 : (v.st == 5) = false := by simpa using h3
       have d4 : (v.st == 6) = false := by simpa using h4
       have hr : r = false := by rw [HR.out]; exact decide_eq_false (by omega)
       subst hr
       clear h1 h2 h3 h4
       go_wp2
       go_ret
       exact ⟨rfl, T.out.2⟩)
theorem anyOne_any (v : Val) (w : World) : CallB 100 #[.agg (cellsV v)] w (.bool true) := by
 have T := Lib.hid (BV.new w v)
 go_enter Tryz.func100, Tryz.ntmps100
 go_upto_region 1 with (fail)
 generalize w.alloc (.cells (cellsV v) 68) = W at *
 go_wp2
 go_ret
 exact ⟨rfl, T.out.2⟩
theorem active1_any (v : Val) (w : World) : CallB 102 #[.agg (cellsV v)] w (.bool (liveB v.st)) := by
 have T := Lib.hid (BV.new w v)
 have HL := Lib.hid (fun w => live_any v.st w)
 generalize liveB v.st = r at *
 go_enter Tryz.func102, Tryz.ntmps102
 go_upto_region 1 with (fail)
 generalize w.alloc (.cells (cellsV v) 68) = W at *
 obtain ⟨x0, x1, x2, x3, x4, x5, x6⟩ := T.out.cells
 clear x0 x2 x3 x4 x5 x6
 go_wp2_with fail
 refine (HL.out _).mono ?_
 rintro e w1 ⟨rfl, rfl⟩
 go_wp2
 go_ret
 exact ⟨rfl, T.out.2⟩
theorem pending1_any (v : Val) (w : World) : CallB 105 #[.agg (cellsV v)] w (.bool (isP v)) := by
 have T := Lib.hid (BV.new w v)
 obtain ⟨r, hr⟩ := named (isP v)
 have d : (v.st == 1) = r := by rw [← hr]; unfold isP; rw [Bool.eq_iff_iff]; simp
 rw [hr]
 clear hr
 go_enter Tryz.func105, Tryz.ntmps105
 go_upto_region 1 with (fail)
 generalize w.alloc (.cells (cellsV v) 68) = W at *
 obtain ⟨x0, x1, x2, x3, x4, x5, x6⟩ := T.out.cells
 clear x0 x2 x3 x4 x5 x6
 go_wp2
 go_ret
 exact ⟨rfl, T.out.2⟩
theorem exits1_any (v : Val) (w : World) : CallB 107 #[.agg (cellsV v)] w (.bool (isE v)) := by
 have T := Lib.hid (BV.new w v)
 obtain ⟨r, hr⟩ := named (isE v)
 have HR : Hid (r = decide (v.st = 3 ∧ v.ex = -1)) := Lib.hid hr.symm
 rw [hr]
 clear hr
 by_cases h : v.st = 3
 ·have d1 : (v.st == 3) = true := by simpa using h
  have d : (v.ex == -1) = r := by rw [HR.out, Bool.eq_iff_iff]; simp [h]
  clear h
  go_enter Tryz.func107, Tryz.ntmps107
  go_upto_region 1 with (fail)
  generalize w.alloc (.cells (cellsV v) 68) = W at *
  obtain ⟨x0, x1, x2, x3, x4, x5, x6⟩ := T.out.cells
  clear x0 x2 x3 x5 x6
  go_wp2
  go_ret
  exact ⟨rfl, T.out.2⟩
 ·have d1 : (v.st == 3) = false := by simpa using h
  have hr : r = false := by rw [HR.out]; exact decide_eq_false (by omega)
  subst hr
  clear h
  go_enter Tryz.func107, Tryz.ntmps107
  go_upto_region 1 with (fail)
  generalize w.alloc (.cells (cellsV v) 68) = W at *
  obtain ⟨x0, x1, x2, x3, x4, x5, x6⟩ := T.out.cells
  clear x0 x2 x3 x5 x6
  go_wp2
  go_ret
  exact ⟨rfl, T.out.2⟩
theorem unb1_any (v : Val) (w : World) : CallB 114 #[.agg (cellsV v)] w (.bool (isU v)) := by
 have T := Lib.hid (BV.new w v)
 obtain ⟨r, hr⟩ := named (isU v)
 have HR : Hid (r = decide (v.st = 4 ∨ v.st = 3 ∧ v.ex ≠ -1)) := Lib.hid hr.symm
 rw [hr]
 clear hr
 by_cases h4 : v.st = 4
 ·have d1 : (v.st == 4) = true := by simpa using h4
  have hr : r = true := by rw [HR.out]; exact decide_eq_true (.inl h4)
  subst hr
  clear h4
  go_enter Tryz.func114, Tryz.ntmps114
  go_upto_region 1 with (fail)
  generalize w.alloc (.cells (cellsV v) 68) = W at *
  obtain ⟨x0, x1, x2, x3, x4, x5, x6⟩ := T.out.cells
  clear x0 x2 x3 x5 x6
  go_wp2
  go_ret
  exact ⟨rfl, T.out.2⟩
 ·have d1 : (v.st == 4) = false := by simpa using h4
  by_cases h : v.st = 3
  ·have d2 : (v.st == 3) = true := by simpa using h
   have d : (v.ex != -1) = r := by rw [HR.out, Bool.eq_iff_iff]; simp [h]
   clear h h4
   go_enter Tryz.func114, Tryz.ntmps114
   go_upto_region 1 with (fail)
   generalize w.alloc (.cells (cellsV v) 68) = W at *
   obtain ⟨x0, x1, x2, x3, x4, x5, x6⟩ := T.out.cells
   clear x0 x2 x3 x5 x6
   go_wp2
   go_ret
   exact ⟨rfl, T.out.2⟩
  ·have d2 : (v.st == 3) = false := by simpa using h
   have hr : r = false := by rw [HR.out]; exact decide_eq_false (by omega)
   subst hr
   clear h h4
   go_enter Tryz.func114, Tryz.ntmps114
   go_upto_region 1 with (fail)
   generalize w.alloc (.cells (cellsV v) 68) = W at *
   obtain ⟨x0, x1, x2, x3, x4, x5, x6⟩ := T.out.cells
   clear x0 x2 x3 x5 x6
   go_wp2
   go_ret
   exact ⟨rfl, T.out.2⟩
theorem empty1_any (v : Val) (w : World) : CallB 111 #[.agg (cellsV v)] w (.bool (okZ v)) := by
 have T := Lib.hid (BV.new w v)
 obtain ⟨r, hr⟩ := named (okZ v)
 have HR : Hid (r = decide (v.bal = 0 ∨ ¬ (v.st = 6 ∨ v.st = 7))) := Lib.hid hr.symm
 rw [hr]
 clear hr
 by_cases h : v.bal = 0
 ·have d1 : (v.bal == 0) = true := by simpa using h
  have hr : r = true := by rw [HR.out]; exact decide_eq_true (.inl h)
  subst hr
  clear h
  go_enter Tryz.func111, Tryz.ntmps111
  go_upto_region 1 with (fail)
  generalize w.alloc (.cells (cellsV v) 68) = W at *
  obtain ⟨x0, x1, x2, x3, x4, x5, x6⟩ := T.out.cells
  clear x2 x3 x4 x5 x6
  go_wp2
  go_ret
  exact ⟨rfl, T.out.2⟩
 ·have d1 : (v.bal == 0) = false := by simpa using h
  obtain ⟨q, hq⟩ := named (finB v.st)
  have HF : Hid (∀ w, CallW 112 #[.int .i64 v.st] w (.bool q)) := Lib.hid fun w => by rw [← hq]; exact final_any v.st w
  have d : (!q) = r := by
   rw [HR.out, ← hq]
   unfold finB
   rw [Bool.eq_iff_iff]
   simp [h]
  clear h hq
  go_enter Tryz.func111, Tryz.ntmps111
  go_upto_region 1 with (fail)
  generalize w.alloc (.cells (cellsV v) 68) = W at *
  obtain ⟨x0, x1, x2, x3, x4, x5, x6⟩ := T.out.cells
  clear x2 x3 x4 x5 x6
  go_wp2_with fail
  refine (HF.out _).mono ?_
  rintro e w1 ⟨rfl, rfl⟩
  go_wp2
  go_ret
  exact ⟨rfl, T.out.2⟩
theorem slashed1_any (v : Val) (w : World) : CallB 115 #[.agg (cellsV v)] w (.bool (okS v)) := by
 have T := Lib.hid (BV.new w v)
 obtain ⟨r, hr⟩ := named (okS v)
 have HR : Hid (r = decide (v.sl = false ∨ (3 ≤ v.st ∧ v.st ≤ 6) ∧ v.dl = -1)) := Lib.hid hr.symm
 have HV := Lib.hid (leaving_any v)
 rw [hr]
 clear hr
 cases hs : v.sl with
 | false =>
  have hr : r = true := by rw [HR.out]; exact decide_eq_true (.inl hs)
  subst hr
  have HS := Lib.hid hs
  clear hs
  go_enter Tryz.func115, Tryz.ntmps115
  go_upto_region 1 with (fail)
  generalize w.alloc (.cells (cellsV v) 68) = W at *
  obtain ⟨x0, x1, x2, x3, x4, x5, x6⟩ := T.out.cells
  rw [HS.out] at x2
  clear x0 x1 x3 x4 x5
  go_wp2
  go_ret
  exact ⟨rfl, T.out.2⟩
 | true =>
  have HS := Lib.hid hs
  cases hl : lvB v with
  | true =>
   have d : (v.dl == -1) = r := by
    have h2 : 3 ≤ v.st ∧ v.st ≤ 6 := by simpa [lvB] using hl
    rw [HR.out, Bool.eq_iff_iff]
    simp [hs, h2]
   rw [hl] at HV
   clear hs hl
   go_enter Tryz.func115, Tryz.ntmps115
   go_upto_region 1 with (fail)
   generalize w.alloc (.cells (cellsV v) 68) = W at *
   obtain ⟨x0, x1, x2, x3, x4, x5, x6⟩ := T.out.cells
   rw [HS.out] at x2
   clear x0 x1 x3 x4 x5
   have HX := Lib.hid T.out.1
   go_wp2_with (first | (refine wpList_load_rowG rfl 68 _ rfl w.heap.size rfl 68 _ (0, 0) _ HX.out Tryz.underlying68 rfl infoV ?_))
   refine (HV.out _).mono ?_
   rintro e w1 ⟨rfl, hb⟩
   have T1 := Lib.hid (T.out.next hb)
   clear hb x2 x6 HX T
   obtain ⟨x0, x1, x2, x3, x4, x5, x6⟩ := T1.out.cells
   clear x0 x1 x2 x3 x4 x5
   go_wp2
   go_ret
   exact ⟨rfl, T1.out.2⟩
  | false =>
   have hr : r = false := by
    have h2 : ¬ (3 ≤ v.st ∧ v.st ≤ 6) := by simpa [lvB] using hl
    rw [HR.out]
    exact decide_eq_false (by rw [hs]; simp; omega)
   subst hr
   rw [hl] at HV
   clear hs hl
   go_enter Tryz.func115, Tryz.ntmps115
   go_upto_region 1 with (fail)
   generalize w.alloc (.cells (cellsV v) 68) = W at *
   obtain ⟨x0, x1, x2, x3, x4, x5, x6⟩ := T.out.cells
   rw [HS.out] at x2
   clear x0 x1 x3 x4 x5
   have HX := Lib.hid T.out.1
   go_wp2_with (first | (refine wpList_load_rowG rfl 68 _ rfl w.heap.size rfl 68 _ (0, 0) _ HX.out Tryz.underlying68 rfl infoV ?_))
   refine (HV.out _).mono ?_
   rintro e w1 ⟨rfl, hb⟩
   have T1 := Lib.hid (T.out.next hb)
   clear hb x2 x6 HX T
   go_wp2
   go_ret
   exact ⟨rfl, T1.out.2⟩
end
section
open Go Go.RowKit Go.Deep
set_option maxRecDepth 100000
set_option maxHeartbeats 1600000 in
theorem epochs1_any (v : Val) (c : Nat → Int) (bc : Nat) (w : World) (hB : Blk w bc 30 (cellsOf c)) (w0 : -4611686018427387904 ≤ v.wd) (w1 : v.wd ≤ 4611686018427387904) (c0 : 0 ≤ c 10) (c1 : c 10 ≤ 1048576) :
  CallB 109 #[.agg (cellsV v), .pointer (some ⟨bc, 0, none⟩)] w (.bool (okE c v)) := by
 have T := Lib.hid (BV.new w v)
 obtain ⟨r, hr⟩ := named (okE c v)
 have HR : Hid (r = decide (v.ex = -1 ∨ (3 ≤ v.st ∧ v.st ≤ 6) ∧ v.rq < v.ex ∧ c 10 ≤ v.wd - v.ex)) := Lib.hid hr.symm
 have HV := Lib.hid (leaving_any v)
 have HB := Lib.hid (hB.alloc (.cells (cellsV v) 68))
 have hw : wrap64 (v.wd - c 10) = v.wd - c 10 := by unfold wrap64; omega
 have HK := Lib.hid (And.intro w0 (And.intro w1 (And.intro c0 c1)))
 rw [hr]
 clear hr hB w0 w1 c0 c1
 go_enter Tryz.func109, Tryz.ntmps109
 go_upto_region 1 with (fail)
 generalize w.alloc (.cells (cellsV v) 68) = W at *
 obtain ⟨x0, x1, x2, x3, x4, x5, x6⟩ := T.out.cells
 clear x0 x1 x2 x3 x5 x6
 by_cases h : v.ex = -1
 ·have hr : r = true := by rw [HR.out]; exact decide_eq_true (.inl h)
  subst hr
  rw [h] at x4
  clear h hw
  go_wp2_with fail
  go_ret
  exact ⟨rfl, T.out.2⟩
 ·have d1 : (v.ex == -1) = false := by simpa using h
  have HH := Lib.hid h
  clear h
  have HX := Lib.hid T.out.1
  go_wp2_with (first | (refine wlr 68 w.heap.size HX.out Tryz.underlying68 infoV ?_))
  cases hl : lvB v with
  | false =>
   have hr : r = false := by
    have h2 : ¬ (3 ≤ v.st ∧ v.st ≤ 6) := by simpa [lvB] using hl
    rw [HR.out]
    exact decide_eq_false (by have := HH.out; omega)
   subst hr
   rw [hl] at HV
   clear hl hw
   refine (HV.out _).mono ?_
   rintro e w1 ⟨rfl, hb⟩
   have T1 := Lib.hid (T.out.next hb)
   clear hb x4 HX T
   go_wp2_with fail
   go_ret
   exact ⟨rfl, T1.out.2⟩
  | true =>
   have h2 : 3 ≤ v.st ∧ v.st ≤ 6 := by simpa [lvB] using hl
   have H2 := Lib.hid h2
   rw [hl] at HV
   clear hl h2
   refine (HV.out _).mono ?_
   rintro e w1 ⟨rfl, hb⟩
   have T1 := Lib.hid (T.out.next hb)
   have HB1 := Lib.hid (HB.out.below hb HB.out.lt)
   clear hb x4 HX T
   obtain ⟨x0, x1, x2, x3, x4, x5, x6⟩ := T1.out.cells
   have y := HB1.out.cell 10
   have y10 : w1.cell? ⟨bc, 10, none⟩ = some (.int .i64 (c 10)) := y
   clear x0 x1 x2 x6 y
   by_cases h3 : v.rq < v.ex
   ·have d2 : decide (v.rq < v.ex) = true := decide_eq_true h3
    have d3 : decide (v.ex ≤ v.wd - c 10) = r := by
     rw [HR.out, Bool.eq_iff_iff, decide_eq_true_eq, decide_eq_true_eq]
     have := H2.out
     have := HH.out
     omega
    clear h3
    go_wp2_with fail
    go_ret
    exact ⟨rfl, T1.out.2⟩
   ·have d2 : decide (v.rq < v.ex) = false := decide_eq_false h3
    have hr : r = false := by
     rw [HR.out]
     exact decide_eq_false (by have := HH.out; omega)
    subst hr
    clear h3 hw
    go_wp2_with fail
    go_ret
    exact ⟨rfl, T1.out.2⟩
end
section
set_option maxRecDepth 100000
open Go Go.RowKit Go.Maps
def refN (s e : Int) : Int :=
 if e = 7 then (if s = 2 ∨ s = 3 then 3 else if s = 4 ∨ s = 5 then 4 else 0)
 else if e = 6 ∧ s = 2 then 7 else if 1 ≤ e ∧ e ≤ 5 ∧ s = e then s + 1 else 0
end
section
set_option maxRecDepth 100000
open Go Go.ChangeShapes Go.WideShapes Go.RowKit Go.Deep
def cfgOf (x0 x1 x2 x3 x4 x5 x6 x7 x8 x9 x10 x11 x12 x13 x14 x15 x16 x17 x18 x19 : Int) : Nat → Int
 | 0 => x0
 | 1 => x1
 | 2 => x2
 | 3 => x3
 | 4 => x4
 | 5 => x5
 | 6 => x6
 | 7 => x7
 | 8 => x8
 | 9 => x9
 | 10 => x10
 | 11 => x11
 | 12 => x12
 | 13 => x13
 | 14 => x14
 | 15 => x15
 | 16 => x16
 | 17 => x17
 | 18 => x18
 | 19 => x19
 | _ => 0
theorem open_T30 {H : Type} {enc : TypeId × Value → H} {w : World} {base : Nat} {spare : Nat → Bool} {held : Bool} {r : Reach} {b0 : Nat} {v : Value} {d : DataW H} {p : List MemPlace}
  (hv : Value.okWide Tryz.prog w r b0 30 v) (h : DataW.Trod enc Tryz.prog w base spare held 30 v d p) : ∃ c : Nat → Int, v = .agg (cellsOf c) ∧ Fits c := by
 obtain ⟨cs, rfl, hsz, H⟩ := open_struct_ints Tryz.underlying30 (by kernel_rfl) (by kernel_rfl) hv h
 obtain ⟨n0, h0, w0⟩ := H 0 _ .i64 rfl Tryz.underlying3
 obtain ⟨n1, h1, w1⟩ := H 1 _ .i64 rfl Tryz.underlying3
 obtain ⟨n2, h2, w2⟩ := H 2 _ .u64 rfl Tryz.underlying23
 obtain ⟨n3, h3, w3⟩ := H 3 _ .u64 rfl Tryz.underlying23
 obtain ⟨n4, h4, w4⟩ := H 4 _ .u64 rfl Tryz.underlying23
 obtain ⟨n5, h5, w5⟩ := H 5 _ .u64 rfl Tryz.underlying23
 obtain ⟨n6, h6, w6⟩ := H 6 _ .u64 rfl Tryz.underlying23
 obtain ⟨n7, h7, w7⟩ := H 7 _ .u64 rfl Tryz.underlying23
 obtain ⟨n8, h8, w8⟩ := H 8 _ .u64 rfl Tryz.underlying23
 obtain ⟨n9, h9, w9⟩ := H 9 _ .u64 rfl Tryz.underlying23
 obtain ⟨n10, h10, w10⟩ := H 10 _ .i64 rfl Tryz.underlying3
 obtain ⟨n11, h11, w11⟩ := H 11 _ .i64 rfl Tryz.underlying3
 obtain ⟨n12, h12, w12⟩ := H 12 _ .i64 rfl Tryz.underlying3
 obtain ⟨n13, h13, w13⟩ := H 13 _ .i64 rfl Tryz.underlying3
 obtain ⟨n14, h14, w14⟩ := H 14 _ .i64 rfl Tryz.underlying3
 obtain ⟨n15, h15, w15⟩ := H 15 _ .i64 rfl Tryz.underlying3
 obtain ⟨n16, h16, w16⟩ := H 16 _ .i64 rfl Tryz.underlying3
 obtain ⟨n17, h17, w17⟩ := H 17 _ .i64 rfl Tryz.underlying3
 obtain ⟨n18, h18, w18⟩ := H 18 _ .u64 rfl Tryz.underlying23
 obtain ⟨n19, h19, w19⟩ := H 19 _ .u64 rfl Tryz.underlying23
 obtain ⟨l⟩ := cs
 match l, hsz with
 | [c0, c1, c2, c3, c4, c5, c6, c7, c8, c9, c10, c11, c12, c13, c14, c15, c16, c17, c18, c19], _ =>
  obtain rfl := Option.some.inj h0
  obtain rfl := Option.some.inj h1
  obtain rfl := Option.some.inj h2
  obtain rfl := Option.some.inj h3
  obtain rfl := Option.some.inj h4
  obtain rfl := Option.some.inj h5
  obtain rfl := Option.some.inj h6
  obtain rfl := Option.some.inj h7
  obtain rfl := Option.some.inj h8
  obtain rfl := Option.some.inj h9
  obtain rfl := Option.some.inj h10
  obtain rfl := Option.some.inj h11
  obtain rfl := Option.some.inj h12
  obtain rfl := Option.some.inj h13
  obtain rfl := Option.some.inj h14
  obtain rfl := Option.some.inj h15
  obtain rfl := Option.some.inj h16
  obtain rfl := Option.some.inj h17
  obtain rfl := Option.some.inj h18
  obtain rfl := Option.some.inj h19
  refine ⟨cfgOf n0 n1 n2 n3 n4 n5 n6 n7 n8 n9 n10 n11 n12 n13 n14 n15 n16 n17 n18 n19, rfl, fun k hk => ?_⟩
  have : k = 0 ∨ k = 1 ∨ k = 2 ∨ k = 3 ∨ k = 4 ∨ k = 5 ∨ k = 6 ∨ k = 7 ∨ k = 8 ∨ k = 9 ∨ k = 10 ∨ k = 11 ∨ k = 12 ∨ k = 13 ∨ k = 14 ∨ k = 15 ∨ k = 16 ∨ k = 17 ∨ k = 18 ∨ k = 19 := by omega
  rcases this with rfl | rfl | rfl | rfl | rfl | rfl | rfl | rfl | rfl | rfl | rfl | rfl | rfl | rfl | rfl | rfl | rfl | rfl | rfl | rfl
  ·exact w0
  ·exact w1
  ·exact w2
  ·exact w3
  ·exact w4
  ·exact w5
  ·exact w6
  ·exact w7
  ·exact w8
  ·exact w9
  ·exact w10
  ·exact w11
  ·exact w12
  ·exact w13
  ·exact w14
  ·exact w15
  ·exact w16
  ·exact w17
  ·exact w18
  ·exact w19
end
section
set_option maxRecDepth 100000
def idleB (s d : Val) : Bool := decide (s.st ≠ 2 ∨ d.st ≠ 2)
def slashB (s d : Val) : Bool := s.sl || d.sl
def overB (s d : Val) (mb : Int) : Bool := decide (18446744073709551615 < s.bal + d.bal ∨ mb < s.bal + d.bal)
def chkM (s d : Val) (mb : Int) : Int := if idleB s d = true then 8 else if slashB s d = true then 9 else if overB s d mb = true then 3 else 0
def mvS (s : Val) : Val := { s with bal := 0, st := 7 }
def mvD (s d : Val) : Val := { d with bal := d.bal + s.bal }
def reqM (l : List Val) (p : Int × Int) (mb : Int) : Int :=
 if p.1 < 0 ∨ p.2 < 0 ∨ (l.length : Int) ≤ p.1 ∨ (l.length : Int) ≤ p.2 then 7 else if p.1 = p.2 then 12 else chkM (l.getD p.1.toNat val0) (l.getD p.2.toNat val0) mb
def moveL (l : List Val) (i j : Nat) : List Val := (l.set i (mvS (l.getD i val0))).set j (mvD (l.getD i val0) (l.getD j val0))
def stepOne (l : List Val) (p : Int × Int) (mb : Int) : List Val := if reqM l p mb = 0 then moveL l p.1.toNat p.2.toNat else l
def stepL (mb : Int) : List Val → List (Int × Int) → List Val
 | l, [] => l
 | l, p :: q => stepL mb (stepOne l p mb) q
theorem chk_ok {s d : Val} {mb : Int} (h : chkM s d mb = 0) : s.st = 2 ∧ d.st = 2 ∧ s.sl = false ∧ d.sl = false ∧ s.bal + d.bal ≤ 18446744073709551615 ∧ s.bal + d.bal ≤ mb := by
 unfold chkM at h
 split at h
 ·omega
 ·split at h
  ·omega
  ·split at h
   ·omega
   ·rename_i h1 h2 h3
    simp [idleB] at h1
    simp [slashB] at h2
    simp [overB] at h3
    exact ⟨h1.1, h1.2, h2.1, h2.2, by omega, by omega⟩
theorem req_in {l : List Val} {p : Int × Int} {mb : Int} (h : reqM l p mb = 0) : ∃ (i j : Nat) (s d : Val), p = ((i : Int), (j : Int)) ∧ i ≠ j ∧ l[i]? = some s ∧ l[j]? = some d ∧ chkM s d mb = 0 := by
 unfold reqM at h
 split at h
 ·omega
 ·split at h
  ·omega
  ·rename_i h1 h2
   obtain ⟨p1, p2⟩ := p
   simp only at h h1 h2
   refine ⟨p1.toNat, p2.toNat, l.getD p1.toNat val0, l.getD p2.toNat val0, ?_, by omega, ?_, ?_, h⟩
   ·simp only [Prod.mk.injEq]
    omega
   ·rw [List.getD_eq_getElem?_getD, List.getElem?_eq_getElem (by omega)]; rfl
   ·rw [List.getD_eq_getElem?_getD, List.getElem?_eq_getElem (by omega)]; rfl
theorem getD_of {l : List Val} {i : Nat} {v : Val} (h : l[i]? = some v) : l.getD i val0 = v := by rw [List.getD_eq_getElem?_getD, h]; rfl
theorem move_len (l : List Val) (i j : Nat) : (moveL l i j).length = l.length := by simp [moveL]
theorem one_len (l : List Val) (p : Int × Int) (mb : Int) : (stepOne l p mb).length = l.length := by unfold stepOne; split <;> simp [move_len]
theorem stepL_len (mb : Int) (q : List (Int × Int)) : ∀ l, (stepL mb l q).length = l.length := by
 induction q with
 | nil => intro l; rfl
 | cons p q ih => intro l; rw [stepL, ih, one_len]
theorem stepL_ind (mb : Int) {I : List Val → Prop} (hI : ∀ l i j s d, I l → i ≠ j → l[i]? = some s → l[j]? = some d → chkM s d mb = 0 → I ((l.set i (mvS s)).set j (mvD s d))) (q : List (Int × Int)) : ∀ l, I l → I (stepL mb l q) := by
 induction q with
 | nil => exact fun l h => h
 | cons p q ih =>
  intro l h
  rw [stepL]
  refine ih _ ?_
  unfold stepOne
  split
  ·rename_i h0
   obtain ⟨i, j, s, d, rfl, hne, hi, hj, hc⟩ := req_in h0
   simp only [moveL, Int.toNat_natCast, getD_of hi, getD_of hj]
   exact hI l i j s d h hne hi hj hc
  ·exact h
theorem fits_mv {s d : Val} {mb : Int} (hs : FitsV s) (hd : FitsV d) (hc : chkM s d mb = 0) : FitsV (mvS s) ∧ FitsV (mvD s d) := by
 have h := chk_ok hc
 have hs' := hs.bal
 have hd' := hd.bal
 refine ⟨⟨show (Lit.int .u64 0).wf = true by decide, show (Lit.int .i64 7).wf = true by decide⟩, ?_, hd.2⟩
 simp [mvD, Lit.wf, IntKind.min, IntKind.max, IntKind.signed, IntKind.bits]
 omega
theorem stepL_sums (mb : Int) (q : List (Int × Int)) (l : List Val) : totalOf (stepL mb l q) = totalOf l ∧ activeOf (stepL mb l q) = activeOf l := by
 refine stepL_ind mb (I := fun m => totalOf m = totalOf l ∧ activeOf m = activeOf l) (fun m i j s d hI hne hi hj hc => ?_) q l ⟨rfl, rfl⟩
 have h := chk_ok hc
 have hj' : (m.set i (mvS s))[j]? = some d := by rw [List.getElem?_set_ne hne]; exact hj
 rw [total_set hj', total_set hi, active_set hj', active_set hi, hI.1, hI.2]
 have e1 : liveBal s = s.bal := by simp [liveBal, liveB, h.1]
 have e2 : liveBal d = d.bal := by simp [liveBal, liveB, h.2.1]
 have e3 : liveBal (mvS s) = 0 := by simp [liveBal, liveB, mvS]
 have e4 : liveBal (mvD s d) = d.bal + s.bal := by simp [liveBal, liveB, mvD, h.2.1]
 rw [e1, e2, e3, e4]
 simp only [mvS, mvD]
 omega
end
section
open Go Go.RowKit
section
variable {P : Program} {ops : Array Oper} {Q : Exit → Act → World → Prop} {md : Region.Mode} {S : World → Prop}
theorem ready_lt {listed : Array Bool} {j : Nat} (h : j ∈ Region.ready md ops listed) : j < ops.size := by
 obtain ⟨_, o, ho, _⟩ := mem_ready.1 h
 exact (Array.getElem?_eq_some_iff.1 ho).1
theorem wpHeadF_firstW {i : Nat} {oi : Oper} {v : Value} {L : Array Bool → Act → World → Prop} (hi : ops[i]? = some oi) (hsel : ∀ (j : Nat) (o : Oper) cs b, ops[j]? = some o → o.op ≠ .select cs b)
  (hQ : ∀ c a w, Q (.panic c) (a.put oi.dst v) w → Q (.panic c) a w)
  (hdone : ∀ listed a w, L listed a w → Region.ready md ops listed = []) :
  ∀ (f : Nat) (listed : Array Bool) (a : Act) (w : World),
   (∀ j oj, ops[j]? = some oj → j ≠ i → listed.getD j true = false → (∀ e ∈ oj.after, Region.binds md e = true → e.on ≠ i) → oi.apart ops oj = true) →
   i ∈ Region.ready md ops listed → YieldsIf P ops S oi v a → S w →
   wpHeadF P md ops Q S ops.size L f (listed.setIfInBounds i true) (a.put oi.dst v) w → wpHeadF P md ops Q S ops.size L (f + 1) listed a w := by
 intro f
 induction f with
 | zero =>
  intro listed a w _ hr hy hS H
  refine ⟨fun h => (by rw [h] at hr; cases hr), fun j hj => ⟨ready_lt hj, ?_⟩⟩
  by_cases hji : j = i
  ·subst hji; exact hy.wpOp hi hS ⟨hS, H⟩
  ·have := hdone _ _ _ H
   have hm := ready_mono hj hji
   rw [this] at hm
   cases hm
 | succ f ih =>
  intro listed a w hfree hr hy hS H
  have hun := (mem_ready.1 hr).1
  refine ⟨fun h => (by rw [h] at hr; cases hr), fun j hj => ⟨ready_lt hj, ?_⟩⟩
  by_cases hji : j = i
  ·subst hji; exact hy.wpOp hi hS ⟨hS, H⟩
  ·have h1 := (H.2 j (ready_mono hj hji)).2
   obtain ⟨hjun, oj, hoj, hall⟩ := mem_ready.1 hj
   have hnot : ∀ e ∈ oj.after, Region.binds md e = true → e.on ≠ i := fun e he hb heq => by
    have h1 := hall e he hb
    rw [heq, getD_both hun] at h1
    cases h1
   have h2 := wpOp_putIf hoj (hfree j oj hoj hji hjun hnot) (fun cs b => hsel i oi cs b hi) (fun cs b => hsel j oj cs b hoj) hQ hy h1
   have hfree' : ∀ k ok, ops[k]? = some ok → k ≠ i → (listed.setIfInBounds j true).getD k true = false →
     (∀ e ∈ ok.after, Region.binds md e = true → e.on ≠ i) → oi.apart ops ok = true := fun k ok hk hki hun hno => by
    refine hfree k ok hk hki ?_ hno
    by_cases hjk : j = k
    ·subst hjk; exact hjun
    ·rw [getD_set_ne true hjk] at hun; exact hun
   refine wpOp_mono (fun a' w' h3 => ⟨h3.2.1, ih (listed.setIfInBounds j true) a' w' hfree' (ready_mono hr (Ne.symm hji)) h3.1 h3.2.1 ?_⟩) h2
   rw [Array.setIfInBounds_comm _ _ hji]
   exact h3.2.2
theorem wpHeadF_takesW {L : Array Bool → Act → World → Prop} {w : World} (hsel : Region.noSelect ops = true) (hQ : ∀ c a w, Q (.panic c) a w → False)
  (hdone : ∀ listed a w, L listed a w → Region.ready md ops listed = []) (hS : S w) (f : Nat) :
  ∀ (ks : List Nat) (listed : Array Bool) (a : Act), takeB md ops ops.size ks listed = true →
   wpQuiet P ops S (fun a' => wpHeadF P md ops Q S ops.size L f (listAll ks listed) a' w) (ks.filterMap fun k => ops[k]?) a → wpHeadF P md ops Q S ops.size L (f + ks.length) listed a w
 | [], listed, a, _, h => h
 | k :: ks, listed, a, hB, h => by
  simp only [takeB, Bool.and_eq_true, decide_eq_true_eq] at hB
  obtain ⟨⟨⟨⟨hkn, hp⟩, hr⟩, hf⟩, hB'⟩ := hB
  cases ho : ops[k]? with
  | none => rw [ho] at hp; cases hp
  | some o =>
   rw [ho] at hp
   rw [List.filterMap_cons_some ho] at h
   have hr' : k ∈ Region.ready md ops listed := by simpa using hr
   have hq : qOp P ops S k (wpQuiet P ops S (fun a' => wpHeadF P md ops Q S ops.size L f (listAll ks (listed.setIfInBounds k true)) a' w) (ks.filterMap fun k => ops[k]?)) a := by unfold qOp; simp only [ho]; exact h
   obtain ⟨v, hy, hK⟩ := yieldsIf_of_quiet ho hp hq
   exact wpHeadF_firstW ho (Region.noSelect_spec hsel) (fun c a w h => (hQ _ _ _ h).elim) hdone (f + ks.length) listed a w (Region.free_spec ho hf) hr' hy hS
    (wpHeadF_takesW hsel hQ hdone hS f ks _ _ hB' hK)
theorem wp_region_whole {id : Nat} {a : Act} {w : World} {l : List Oper} (S : World → Prop) (f : Nat) (ks : List Nat) (hm : P.follows .mixedOrders = true)
  (hB : (Region.noSelect l.toArray && takeB .any l.toArray l.toArray.size ks (Array.replicate l.toArray.size false) && decide (f + ks.length = l.toArray.size)) = true)
  (hS : S w.drew)
  (h : wpQuiet P l.toArray S (fun a' => wpHeadF P .any l.toArray (NoPanic Q) S l.toArray.size (fun listed a' w' => Region.ready .any l.toArray listed = [] ∧ NoPanic Q .normal a' w') f (listAll ks (Array.replicate l.toArray.size false)) a' w.drew) (ks.filterMap fun k => l.toArray[k]?) a) :
  (Code.region id l.toArray true).wp P Q a w := by
 simp only [Bool.and_eq_true, decide_eq_true_eq] at hB
 obtain ⟨⟨hsel, ht⟩, hf⟩ := hB
 refine wp_region_noPanic (wp_region_any hm ?_)
 have H := wpHeadF_takesW (Q := NoPanic Q) hsel (fun _ _ _ h => h) (fun listed a w hL => hL.1) hS f ks _ a ht h
 have := wpAny_of_headF (Q := NoPanic Q) (g := 0) (fun listed a' w' hL => ⟨hL.1, hL.2⟩) _ _ _ _ H
 rw [hf] at this
 exact this
theorem headF_takesW {f m : Nat} {l : List Oper} {a : Act} {w : World} {listed : Array Bool} (S' : World → Prop) (ks : List Nat) (hSS : ∀ w, S' w → S w)
  (hB : (Region.noSelect l.toArray && takeB .any l.toArray l.toArray.size ks listed && decide (f + ks.length = m)) = true) (hS : S' w)
  (h : wpQuiet P l.toArray S' (fun a' => wpHeadF P .any l.toArray (NoPanic Q) S' l.toArray.size (fun listed a' w' => Region.ready .any l.toArray listed = [] ∧ NoPanic Q .normal a' w') f (listAll ks listed) a' w) (ks.filterMap fun k => l.toArray[k]?) a) :
  wpHeadF P .any l.toArray (NoPanic Q) S l.toArray.size (fun listed a' w' => Region.ready .any l.toArray listed = [] ∧ NoPanic Q .normal a' w') m listed a w := by
 simp only [Bool.and_eq_true, decide_eq_true_eq] at hB
 obtain ⟨⟨hsel, ht⟩, hf⟩ := hB
 refine wpHeadF_mono hSS m listed a w ?_
 rw [← hf]
 exact wpHeadF_takesW (Q := NoPanic Q) hsel (fun _ _ _ h => h) (fun listed a w hL => hL.1) hS f ks _ a ht h
end
end
section
open Go Go.RowKit
section
variable {P : Program} {ops : Array Oper} {Q : Exit → Act → World → Prop} {md : Region.Mode} {S : World → Prop}
theorem wrW {id : Nat} {a : Act} {w : World} {l : List Oper} (S : World → Prop) (f : Nat) (ks : List Nat) (hS : S w.drew)
  (h : wpQuiet P l.toArray S (fun a' => wpHeadF P .any l.toArray (NoPanic Q) S l.toArray.size (fun listed a' w' => Region.ready .any l.toArray listed = [] ∧ NoPanic Q .normal a' w') f (listAll ks (Array.replicate l.toArray.size false)) a' w.drew) (ks.filterMap fun k => l.toArray[k]?) a)
  (hm : P.follows .mixedOrders = true := by kernel_rfl)
  (hB : (Region.noSelect l.toArray && takeB .any l.toArray l.toArray.size ks (Array.replicate l.toArray.size false) && decide (f + ks.length = l.toArray.size)) = true := by kernel_rfl) :
  (Code.region id l.toArray true).wp P Q a w := wp_region_whole S f ks hm hB hS h
theorem hfW {f m : Nat} {l : List Oper} {a : Act} {w : World} {listed : Array Bool} (S' : World → Prop) (ks : List Nat) (hS : S' w)
  (h : wpQuiet P l.toArray S' (fun a' => wpHeadF P .any l.toArray (NoPanic Q) S' l.toArray.size (fun listed a' w' => Region.ready .any l.toArray listed = [] ∧ NoPanic Q .normal a' w') f (listAll ks listed) a' w) (ks.filterMap fun k => l.toArray[k]?) a)
  (hSS : ∀ w, S' w → S w := by exact fun _ h => h)
  (hB : (Region.noSelect l.toArray && takeB .any l.toArray l.toArray.size ks listed && decide (f + ks.length = m)) = true := by kernel_rfl) :
  wpHeadF P .any l.toArray (NoPanic Q) S l.toArray.size (fun listed a' w' => Region.ready .any l.toArray listed = [] ∧ NoPanic Q .normal a' w') m listed a w := headF_takesW S' ks hSS hB hS h
end
end
section
open Go Go.ChangeShapes Go.WideShapes Go.RowKit Go.Deep
set_option maxRecDepth 100000
structure Py where
 ix : Int
 am : Int
 fu : Bool
deriving DecidableEq, Inhabited
def Py.row (v : Py) : List Value := [.int .i64 v.ix, .int .u64 v.am, .bool v.fu]
theorem Py.row_one (v : Py) : ∀ u ∈ v.row, u.oneCell' = true := by
 intro u hu
 simp only [Py.row, List.mem_cons, List.not_mem_nil, or_false] at hu
 rcases hu with rfl | rfl | rfl <;> rfl
end
section
open Go Go.ChangeShapes Go.WideShapes Go.RowKit Go.Deep
set_option maxRecDepth 100000
structure Rq where
 ix : Int
 am : Int
deriving DecidableEq, Inhabited
def Rq.row (v : Rq) : List Value := [.int .i64 v.ix, .int .u64 v.am]
def FitsRq (v : Rq) : Prop := (Lit.int .i64 v.ix).wf = true ∧ (Lit.int .u64 v.am).wf = true
theorem Rq.row_one (v : Rq) : ∀ u ∈ v.row, u.oneCell' = true := by
 intro u hu
 simp only [Rq.row, List.mem_cons, List.not_mem_nil, or_false] at hu
 rcases hu with rfl | rfl <;> rfl
end
section
set_option maxRecDepth 100000
def inB_17 (r : Rq) (n : Nat) : Bool := decide (0 ≤ r.ix ∧ r.ix < n)
def chkP (l : List Val) (r : Rq) : Int := if inB_17 r l.length = false then 7 else if r.am = 0 then 3 else if (l.getD r.ix.toNat val0).st ≠ 2 then 8 else 0
def avail (v : Val) (mb : Int) : Int := if v.st ≠ 2 then 0 else if v.sl = true then 0 else if mb < v.bal then v.bal - mb else 0
def paidX (v : Val) (x mb : Int) : Int := if avail v mb < x then avail v mb else x
def appV (v : Val) (x mb : Int) : Val := { v with bal := v.bal - paidX v x mb }
def payX (l : List Val) (r : Rq) (mb : Int) : Int := if inB_17 r l.length = true then paidX (l.getD r.ix.toNat val0) r.am mb else 0
def payL (l : List Val) (r : Rq) (mb : Int) : List Val := if inB_17 r l.length = true then l.set r.ix.toNat (appV (l.getD r.ix.toNat val0) r.am mb) else l
def recP (i x : Int) : List Py := if x = 0 then [] else [⟨i, x, false⟩]
def stepL_17 (mb : Int) : List Val → List Rq → List Val
 | l, [] => l
 | l, r :: q => stepL_17 mb (payL l r mb) q
def stepP (mb : Int) : List Val → List Rq → List Py
 | _, [] => []
 | l, r :: q => recP r.ix (payX l r mb) ++ stepP mb (payL l r mb) q
theorem avail_bounds {v : Val} {mb : Int} (hv : FitsV v) (hm : 0 ≤ mb) : 0 ≤ avail v mb ∧ avail v mb ≤ v.bal := by
 have := hv.bal
 unfold avail
 split
 ·omega
 ·split
  ·omega
  ·split <;> omega
theorem paid_bounds {v : Val} {x mb : Int} (hv : FitsV v) (hm : 0 ≤ mb) (hx : 0 ≤ x) : 0 ≤ paidX v x mb ∧ paidX v x mb ≤ v.bal ∧ paidX v x mb ≤ avail v mb ∧ paidX v x mb ≤ x := by
 have := avail_bounds hv hm
 unfold paidX
 split <;> omega
theorem app_fits {v : Val} {x mb : Int} (hv : FitsV v) (hm : 0 ≤ mb) (hx : 0 ≤ x) : FitsV (appV v x mb) := by
 have h := paid_bounds hv hm hx
 have hb := hv.bal
 refine ⟨?_, hv.2⟩
 simp only [appV]
 simp [Lit.wf, IntKind.min, IntKind.max, IntKind.signed, IntKind.bits]
 omega
theorem in_at {l : List Val} {r : Rq} (h : inB_17 r l.length = true) : ∃ (i : Nat) (v : Val), r.ix = (i : Int) ∧ l[i]? = some v := by
 have h' : 0 ≤ r.ix ∧ r.ix < l.length := of_decide_eq_true h
 exact ⟨r.ix.toNat, l[r.ix.toNat]'(by omega), by omega, List.getElem?_eq_getElem _⟩
theorem pay_at {l : List Val} {r : Rq} {i : Nat} {v : Val} (mb : Int) (hi : r.ix = (i : Int)) (hv : l[i]? = some v) : inB_17 r l.length = true ∧ payX l r mb = paidX v r.am mb ∧ payL l r mb = l.set i (appV v r.am mb) := by
 have hl := (List.getElem?_eq_some_iff.1 hv).1
 have h : inB_17 r l.length = true := decide_eq_true (by omega)
 refine ⟨h, ?_, ?_⟩
 ·rw [payX, if_pos h, hi, Int.toNat_natCast, getD_of hv]
 ·rw [payL, if_pos h, hi, Int.toNat_natCast, getD_of hv]
theorem pay_len (l : List Val) (r : Rq) (mb : Int) : (payL l r mb).length = l.length := by unfold payL; split <;> simp
theorem stepL_len_17 (mb : Int) (q : List Rq) : ∀ l, (stepL_17 mb l q).length = l.length := by
 induction q with
 | nil => intro l; rfl
 | cons p q ih => intro l; rw [stepL_17, ih, pay_len]
theorem pay_fits {l : List Val} {r : Rq} {mb : Int} (hm : 0 ≤ mb) (hr : 0 ≤ r.am) (h : ∀ v ∈ l, FitsV v) : ∀ v ∈ payL l r mb, FitsV v := by
 unfold payL
 split
 ·rename_i hb
  obtain ⟨i, v, hi, hv⟩ := in_at hb
  rw [hi, Int.toNat_natCast, getD_of hv]
  intro u hu
  rcases List.mem_or_eq_of_mem_set hu with h1 | h1
  ·exact h u h1
  ·exact h1 ▸ app_fits (h v (List.mem_of_getElem? hv)) hm hr
 ·exact h
theorem FitsRq.am {r : Rq} (h : FitsRq r) : 0 ≤ r.am ∧ r.am ≤ 18446744073709551615 := bounds_u64 h.2
theorem stepL_fits_17 (mb : Int) (hm : 0 ≤ mb) (q : List Rq) : ∀ (l : List Val), (∀ r ∈ q, FitsRq r) → (∀ v ∈ l, FitsV v) → ∀ v ∈ stepL_17 mb l q, FitsV v := by
 induction q with
 | nil => intro l _ h; exact h
 | cons r q ih =>
  intro l hq h
  rw [stepL_17]
  exact ih _ (fun x hx => hq x (by simp [hx])) (pay_fits hm (hq r (by simp)).am.1 h)
def stepN_17 (c : Nat → Int) (q : List Rq) : Nat := min (c 16).toNat q.length
def paidTo (i : Nat) : List Py → Int
 | [] => 0
 | p :: ps => (if p.ix = (i : Int) then p.am else 0) + paidTo i ps
theorem paidTo_append (i : Nat) (a b : List Py) : paidTo i (a ++ b) = paidTo i a + paidTo i b := by
 induction a with
 | nil => simp [paidTo]
 | cons p a ih => simp only [List.cons_append, paidTo, ih]; omega
theorem paidTo_rec (i : Nat) (j x : Int) : paidTo i (recP j x) = if j = (i : Int) then x else 0 := by
 unfold recP
 split
 ·rename_i h; subst h; simp [paidTo]
 ·simp [paidTo]
def Paid (mb : Int) (v v' : Val) (x : Int) : Prop := v' = { v with bal := v.bal - x } ∧ 0 ≤ x ∧ (x = 0 ∨ (v.st = 2 ∧ v.sl = false ∧ mb ≤ v.bal - x))
theorem paid_one {v : Val} {x mb : Int} (hv : FitsV v) (hm : 0 ≤ mb) (hx : 0 ≤ x) : Paid mb v (appV v x mb) (paidX v x mb) := by
 refine ⟨rfl, (paid_bounds hv hm hx).1, ?_⟩
 have h := (paid_bounds hv hm hx)
 by_cases h0 : paidX v x mb = 0
 ·exact .inl h0
 ·refine .inr ?_
  have ha : avail v mb ≠ 0 := by omega
  unfold avail at ha
  have hb := h.2.2.1
  unfold avail at hb
  split at ha
  ·omega
  ·rename_i h1
   split at ha
   ·omega
   ·rename_i h2
    split at ha
    ·rename_i h3
     rw [if_neg h1, if_neg h2, if_pos h3] at hb
     exact ⟨by simpa using h1, by simpa using h2, by omega⟩
    ·omega
theorem Paid.trans {mb : Int} {a b c : Val} {x y : Int} (h : Paid mb a b x) (k : Paid mb b c y) : Paid mb a c (x + y) := by
 obtain ⟨rfl, h1, h2⟩ := h
 obtain ⟨rfl, k1, k2⟩ := k
 refine ⟨by simp [Int.sub_sub], by omega, ?_⟩
 simp only at k2
 rcases k2 with k2 | ⟨k2, k3, k4⟩
 ·subst k2
  rcases h2 with h2 | ⟨h2, h3, h4⟩
  ·exact .inl (by omega)
  ·exact .inr ⟨h2, h3, by omega⟩
 ·exact .inr ⟨k2, k3, by omega⟩
theorem Paid.zero {mb : Int} (v : Val) : Paid mb v v 0 := ⟨by simp, Int.le_refl _, .inl rfl⟩
theorem step_all (mb : Int) (hm : 0 ≤ mb) (q : List Rq) : ∀ (l : List Val), (∀ r ∈ q, FitsRq r) → (∀ v ∈ l, FitsV v) →
  (∀ i v, l[i]? = some v → ∃ v', (stepL_17 mb l q)[i]? = some v' ∧ Paid mb v v' (paidTo i (stepP mb l q))) ∧
  ∀ p ∈ stepP mb l q, 0 < p.am ∧ p.fu = false ∧ ∃ (i : Nat) (v : Val), p.ix = (i : Int) ∧ l[i]? = some v ∧ v.st = 2 ∧ v.sl = false := by
 induction q with
 | nil => exact fun l _ _ => ⟨fun i v hv => ⟨v, hv, Paid.zero v⟩, fun p hp => by simp [stepP] at hp⟩
 | cons r q ih =>
  intro l hq hl
  have hr := (hq r (by simp)).am
  have hq' : ∀ x ∈ q, FitsRq x := fun x hx => hq x (by simp [hx])
  obtain ⟨i1, i2⟩ := ih (payL l r mb) hq' (pay_fits hm hr.1 hl)
  by_cases hb : inB_17 r l.length = true
  ·obtain ⟨k, u, hk, hu⟩ := in_at hb
   obtain ⟨_, e1, e2⟩ := pay_at mb hk hu
   have hkl := (List.getElem?_eq_some_iff.1 hu).1
   have P1 := paid_one (hl u (List.mem_of_getElem? hu)) hm hr.1
   simp only [stepL_17, stepP]
   rw [e2] at i1 i2 ⊢
   rw [e1]
   refine ⟨fun i v hv => ?_, fun p hp => ?_⟩
   ·rw [paidTo_append, paidTo_rec]
    by_cases hik : i = k
    ·subst hik
     rw [hu] at hv
     injection hv with hv
     subst hv
     rw [if_pos hk]
     obtain ⟨v', g1, g2⟩ := i1 i (appV u r.am mb) (by rw [List.getElem?_set_self hkl])
     exact ⟨v', g1, P1.trans g2⟩
    ·rw [if_neg (by omega)]
     obtain ⟨v', g1, g2⟩ := i1 i v (by rw [List.getElem?_set_ne (Ne.symm hik)]; exact hv)
     refine ⟨v', g1, ?_⟩
     rw [Int.zero_add]
     exact g2
   ·rcases List.mem_append.1 hp with hp | hp
    ·unfold recP at hp
     split at hp
     ·cases hp
     ·rename_i h0
      rw [List.mem_singleton] at hp
      subst hp
      refine ⟨by have := P1.2.1; simp only; omega, rfl, k, u, hk, hu, ?_⟩
      rcases P1.2.2 with h | h
      ·omega
      ·exact ⟨h.1, h.2.1⟩
    ·obtain ⟨h1, h2, i, v, h3, h4, h5, h6⟩ := i2 p hp
     refine ⟨h1, h2, i, ?_⟩
     by_cases hik : i = k
     ·subst hik
      rw [List.getElem?_set_self hkl] at h4
      injection h4 with h4
      subst h4
      exact ⟨u, h3, hu, h5, h6⟩
     ·rw [List.getElem?_set_ne (Ne.symm hik)] at h4
      exact ⟨v, h3, h4, h5, h6⟩
  ·have e2 : payL l r mb = l := by unfold payL; rw [if_neg hb]
   have e1 : payX l r mb = 0 := by unfold payX; rw [if_neg hb]
   simp only [stepL_17, stepP]
   rw [e2] at i1 i2 ⊢
   rw [e1, show recP r.ix 0 = [] from rfl, List.nil_append]
   exact ⟨i1, i2⟩
end
section
open Go.RowKit
set_option maxRecDepth 100000
def gOf (B T D : Int) : Int := (B + T + D) % 18446744073709551616
def bOf (T S : Int) : Int := (T - S) % 18446744073709551616
def MetAt (w : World) (b : Nat) (B S T D : Int) : Prop := Blk w b 161 #[.int .u64 (gOf B T D), .int .u64 T, .int .u64 D, .int .u64 (bOf T S)]
def Fits_13 (B S T D : Int) : Prop := 0 ≤ B ∧ 0 ≤ S ∧ B + S ≤ 18446744073709551615 ∧ 0 ≤ T ∧ T ≤ 18446744073709551615 ∧ 0 ≤ D ∧ D ≤ 18446744073709551615
section
variable {w w' : World} {b d : Nat} {B S T D x : Int}
theorem MetAt.cells (h : MetAt w b B S T D) : w.cell? ⟨b, 0, none⟩ = some (.int .u64 (gOf B T D)) ∧ w.cell? ⟨b, 1, none⟩ = some (.int .u64 T) ∧ w.cell? ⟨b, 2, none⟩ = some (.int .u64 D) ∧ w.cell? ⟨b, 3, none⟩ = some (.int .u64 (bOf T S)) :=
 ⟨Blk.cell h 0, Blk.cell h 1, Blk.cell h 2, Blk.cell h 3⟩
theorem rest_eq (hF : Fits_13 B S T D) : ∃ A, IntKind.u64.wrap (gOf B T D - T) = A ∧ IntKind.u64.wrap (A - D) = B := by
 refine ⟨_, rfl, ?_⟩
 obtain ⟨f0, f1, f2, f3, f4, f5, f6⟩ := hF
 simp only [IntKind.wrap_u64, gOf]
 omega
theorem take_eq (hF : Fits_13 B S T D) (x0 : 0 ≤ x) (hx : x ≤ B) : ∃ T', IntKind.u64.wrap (T + x) = T' ∧ Fits_13 (B - x) (S + x) T' D ∧ gOf (B - x) T' D = gOf B T D ∧ bOf T' (S + x) = bOf T S := by
 refine ⟨_, rfl, ?_⟩
 obtain ⟨f0, f1, f2, f3, f4, f5, f6⟩ := hF
 simp only [IntKind.wrap_u64, bOf, gOf, Fits_13]
 omega
theorem drop_eq (hF : Fits_13 B S T D) : ∃ D', IntKind.u64.wrap (D + B) = D' ∧ Fits_13 0 S T D' ∧ gOf 0 T D' = gOf B T D := by
 refine ⟨_, rfl, ?_⟩
 obtain ⟨f0, f1, f2, f3, f4, f5, f6⟩ := hF
 simp only [IntKind.wrap_u64, gOf, Fits_13]
 omega
theorem grant_eq (hF : Fits_13 B S T D) (x0 : 0 ≤ x) : ∃ p, (if 18446744073709551615 - B < x then 18446744073709551615 - B else x) = p ∧ IntKind.u64.wrap (gOf B T D + p) = gOf (B + p) T D ∧ Fits_13 (B + p) 0 T D ∧ bOf T 0 = T ∧ 0 ≤ p := by
 refine ⟨_, rfl, ?_⟩
 obtain ⟨f0, f1, f2, f3, f4, f5, f6⟩ := hF
 simp only [IntKind.wrap_u64, gOf, bOf, Fits_13]
 split <;> omega
theorem MetAt.range (h : MetAt w b B S T D) : w.rangeAt b 0 [.int .u64 (gOf B T D), .int .u64 T, .int .u64 D] := by
 intro j v hv
 have hj : j < 3 := (List.getElem?_eq_some_iff.1 hv).1
 rw [Nat.zero_add, Blk.cell h j]
 obtain rfl | rfl | rfl : j = 0 ∨ j = 1 ∨ j = 2 := by omega
 all_goals exact hv
end
theorem rest_any (b : Nat) (B S T D : Int) (w : World) (h : MetAt w b B S T D) (hF : Fits_13 B S T D) :
  CallD 97 #[.pointer (some ⟨b, 0, none⟩)] w (.int .u64 B) := by
 obtain ⟨c0, c1, c2, c3⟩ := h.cells
 obtain ⟨A, eA, eB⟩ := rest_eq hF
 clear h hF c3
 generalize gOf B T D = G at *
 go_enter Tryz.func97, Tryz.ntmps97
 go_wp2
 go_quiet (skip)
 go_wp2
 go_ret
 exact ⟨rfl, _, rfl⟩
theorem balance_any_13 (b : Nat) (B S T D : Int) (w : World) (h : MetAt w b B S T D) (hF : Fits_13 B S T D) :
  CallD 50 #[.pointer (some ⟨b, 0, none⟩)] w (.int .u64 B) := by
 have H := Lib.hid (rest_any b B S T D w h hF)
 clear h hF
 go_enter Tryz.func50, Tryz.ntmps50
 go_wp2_with fail
 refine H.out.mono ?_
 rintro e w' ⟨rfl, m, rfl⟩
 go_wp2_with fail
 go_ret
 exact ⟨rfl, _, rfl⟩
theorem new_any_13 (w : World) :
  Calls Tryz.prog 79 #[] w fun e w' => e = .returned (.pointer (some ⟨w.heap.size, 0, none⟩)) ∧ w.alloc (.cells #[.int .u64 0, .int .u64 0, .int .u64 0, .int .u64 0] 161) = w' := by
 go_enter Tryz.func79, Tryz.ntmps79
 go_wp2
 go_ret
 exact ⟨rfl, rfl⟩
theorem fits_zero : Fits_13 0 0 0 0 := by unfold Fits_13; omega
end
section
open Go.RowKit
set_option maxRecDepth 100000
theorem take_no (b : Nat) (B S T D x : Int) (w : World) (h : MetAt w b B S T D) (hF : Fits_13 B S T D) (hx : x > B) :
  CallD 264 #[.pointer (some ⟨b, 0, none⟩), .int .u64 x] w (.bool false) := by
 have H := Lib.hid (rest_any b B S T D w h hF)
 clear h hF
 go_enter Tryz.func264, Tryz.ntmps264
 go_wp2_with fail
 refine H.out.mono ?_
 rintro e w' ⟨rfl, m, rfl⟩
 go_wp2_with fail
 go_ret
 exact ⟨rfl, _, rfl⟩
theorem take_yes (b : Nat) (B S T D T' x : Int) (w : World) (h : MetAt w b B S T D) (hF : Fits_13 B S T D) (hx : x ≤ B) (hT : IntKind.u64.wrap (T + x) = T') (hG : gOf (B - x) T' D = gOf B T D) (hb : bOf T' (S + x) = bOf T S) :
  Calls Tryz.prog 264 #[.pointer (some ⟨b, 0, none⟩), .int .u64 x] w fun e w' => e = .returned (.bool true) ∧ MetAt w' b (B - x) (S + x) T' D ∧ w.grownBy w' (some b) := by
 have H := Lib.hid (rest_any b B S T D w h hF)
 obtain ⟨c0, c1, c2, c3⟩ := h.cells
 have z1 := Blk.frozen h 1
 have HE : Hid (∀ m, MetAt ((w.drewN m).setCell ⟨b, 1, none⟩ (.int .u64 T')) b (B - x) (S + x) T' D ∧ w.grownBy ((w.drewN m).setCell ⟨b, 1, none⟩ (.int .u64 T')) (some b)) := Lib.hid (fun m => ⟨by unfold MetAt; rw [hG, hb]; exact Blk.set_ (Blk.drewN h m) 1 _, only_setCell (only_drewN (only_refl _ _) m) (.inl rfl) _⟩)
 clear h hF hG hb c0 c2 c3
 go_enter Tryz.func264, Tryz.ntmps264
 go_wp2_with fail
 refine H.out.mono ?_
 rintro e w1 ⟨rfl, m, rfl⟩
 go_wp2_with fail
 go_ret
 exact ⟨rfl, HE.out m⟩
theorem drop_any (b : Nat) (B S T D D' : Int) (w : World) (h : MetAt w b B S T D) (hF : Fits_13 B S T D) (hD : IntKind.u64.wrap (D + B) = D') (hG : gOf 0 T D' = gOf B T D) :
  Calls Tryz.prog 266 #[.pointer (some ⟨b, 0, none⟩)] w fun e w' => e = .returned (.int .u64 B) ∧ MetAt w' b 0 S T D' ∧ w.grownBy w' (some b) := by
 have H := Lib.hid (rest_any b B S T D w h hF)
 obtain ⟨c0, c1, c2, c3⟩ := h.cells
 have z1 := Blk.frozen h 2
 have HE : Hid (∀ m, MetAt ((w.drewN m).setCell ⟨b, 2, none⟩ (.int .u64 D')) b 0 S T D' ∧ w.grownBy ((w.drewN m).setCell ⟨b, 2, none⟩ (.int .u64 D')) (some b)) := Lib.hid (fun m => ⟨by unfold MetAt; rw [hG]; exact Blk.set_ (Blk.drewN h m) 2 _, only_setCell (only_drewN (only_refl _ _) m) (.inl rfl) _⟩)
 clear h hF hG c0 c1 c3
 go_enter Tryz.func266, Tryz.ntmps266
 go_wp2_with fail
 refine H.out.mono ?_
 rintro e w1 ⟨rfl, m, rfl⟩
 go_wp2_with fail
 go_ret
 exact ⟨rfl, HE.out m⟩
set_option maxHeartbeats 800000 in
theorem grant_any (b : Nat) (B S T D x p : Int) (w : World) (h : MetAt w b B S T D) (hF : Fits_13 B S T D) (hp : (if 18446744073709551615 - B < x then 18446744073709551615 - B else x) = p) (hG : IntKind.u64.wrap (gOf B T D + p) = gOf (B + p) T D) (hN : Fits_13 (B + p) 0 T D) (hb : bOf T 0 = T) :
  Calls Tryz.prog 262 #[.pointer (some ⟨b, 0, none⟩), .int .u64 x] w fun e w' => e = .returned (.int .u64 (B + p)) ∧ MetAt w' b (B + p) 0 T D ∧ w.grownBy w' (some b) := by
 have HF := Lib.hid hF
 have HH := Lib.hid h
 have HP := Lib.hid hp
 have hlast : Hid (∀ (w1 : World), MetAt w1 b (B + p) 0 T D → CallD 97 #[.pointer (some ⟨b, 0, none⟩)] w1 (.int .u64 (B + p))) := Lib.hid (fun w1 h1 => rest_any b (B + p) 0 T D w1 h1 hN)
 have f0 := hF.1
 have f1 : B ≤ 18446744073709551615 := by have := hF.2.1; have := hF.2.2.1; omega
 generalize hq : B + p = q at *
 clear hq hp hF hN h
 go_enter Tryz.func262, Tryz.ntmps262
 go_wp2
 refine wrF (fun w' => MetAt w' b B S T D) 13 4 [0, 1, 2, 3, 4, 5, 6, 7, 8] (Blk.drew HH.out) ?_
 simp only [List.filterMap_cons, List.filterMap_nil, List.getElem?_toArray, List.getElem?_cons_zero, List.getElem?_cons_succ]
 show wpQuiet _ _ _ _ [_, _, _, _, _, _, _, _, _] _
 iterate 4 (go_big_quiet_step ((intros; rfl)))
 refine qce 23 _ (.int .u64 (gOf B T D)) (fun w h => Blk.cell h 0) ?_
 simp only [Act.put, List.setIfInBounds_toArray, List.set_cons_zero, List.set_cons_succ]
 iterate 4 (go_big_quiet_step ((intros; rfl)))
 refine wpQuiet_nil ?_
 refine hfO (i := 9) ?_
 refine wcA #[.pointer (some ⟨b, 0, none⟩)] Tryz.call97 ((rest_any b B S T D _ (Blk.drew HH.out) HF.out).mono ?_)
 rintro e w1 ⟨rfl, m, hw1⟩
 have M1 : Hid (MetAt w1 b B S T D) := Lib.hid (hw1 ▸ Blk.drewN (Blk.drew HH.out) m)
 have G1 : Hid (w.grownBy w1 (some b)) := Lib.hid (hw1 ▸ only_drewN (only_drew (only_refl _ _)) m)
 clear hw1
 refine ⟨_, rfl, M1.out, ?_⟩
 simp only [Act.put, List.getElem_toArray, List.getElem_cons_zero, List.getElem_cons_succ, List.setIfInBounds_toArray, List.set_cons_zero, List.set_cons_succ]
 refine hfT (fun w' => MetAt w' b B S T D) (m := 3) (f := 0) [10, 11, 12] M1.out ?_
 simp only [List.filterMap_cons, List.filterMap_nil, List.getElem?_toArray, List.getElem?_cons_zero, List.getElem?_cons_succ]
 show wpQuiet _ _ _ _ [_, _, _] _
 iterate 3 (go_big_quiet_step ((intros; rfl)))
 refine wpQuiet_nil ?_
 show Region.seqB _ _ _ _ _ = true ∧ _
 refine ⟨by kernel_rfl, ?_⟩
 try rw [min_ite]
 rw [HP.out]
 simp only [Act.put, List.getElem_toArray, List.getElem_cons_zero, List.getElem_cons_succ, List.setIfInBounds_toArray, List.set_cons_zero, List.set_cons_succ, List.drop_succ_cons, List.drop_zero]
 have g1 : w.grownBy (w1.setCell ⟨b, 0, none⟩ (.int .u64 (gOf q T D))) (some b) := only_setCell G1.out (.inl rfl) _
 have g2 : w.grownBy ((w1.setCell ⟨b, 0, none⟩ (.int .u64 (gOf q T D))).setCell ⟨b, 3, none⟩ (.int .u64 T)) (some b) := only_setCell g1 (.inl rfl) _
 have H2 : Hid (MetAt ((w1.setCell ⟨b, 0, none⟩ (.int .u64 (gOf q T D))).setCell ⟨b, 3, none⟩ (.int .u64 T)) b q 0 T D ∧ w.grownBy ((w1.setCell ⟨b, 0, none⟩ (.int .u64 (gOf q T D))).setCell ⟨b, 3, none⟩ (.int .u64 T)) (some b)) :=
  Lib.hid ⟨by unfold MetAt; rw [hb]; exact Blk.set_ (Blk.set_ M1.out 0 _) 3 _, g2⟩
 have c0 : w1.cell? ⟨b, 0, none⟩ = some (.int .u64 (gOf B T D)) := Blk.cell M1.out 0
 have c3 : w1.cell? ⟨b, 3, none⟩ = some (.int .u64 (bOf T S)) := Blk.cell M1.out 3
 have c1 : w1.cell? ⟨b, 1, none⟩ = some (.int .u64 T) := Blk.cell M1.out 1
 have z0 : w1.frozen? ⟨b, 0, none⟩ = false := Blk.frozen M1.out 0
 have z3 : w1.frozen? ⟨b, 3, none⟩ = false := Blk.frozen M1.out 3
 clear hb g1 g2
 go_wp2
 refine NoPanic.normal ?_
 go_wp2_with fail
 refine (hlast.out _ H2.out.1).mono ?_
 rintro e w2 ⟨rfl, m2, rfl⟩
 go_wp2_with fail
 go_ret
 exact ⟨rfl, Blk.drewN H2.out.1 _, only_drewN H2.out.2 _⟩
end
end Go.Proofs.YtobgbcdgffgdhaaGreat
