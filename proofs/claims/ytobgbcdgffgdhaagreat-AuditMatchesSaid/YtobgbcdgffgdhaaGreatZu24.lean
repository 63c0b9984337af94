/- Part 24 of 29: Rst Rfa24 Rfb24 Rfc24 Rho Ral. -/
import Derived.Test.YtobgbcdgffgdhaaGreatZu12
namespace Go.Proofs.YtobgbcdgffgdhaaGreat
set_option linter.unusedVariables false
set_option linter.unusedSimpArgs false
section
open Go Go.RowKit Go.Deep
set_option maxRecDepth 100000
def stRow (x : Sx) : List Value := [.int .i64 x.bk, .int .i64 x.ep, .slice x.va x.vn x.vc, .int .u64 x.D, .int .u64 x.P, .int .u64 x.B, .int .u64 x.ac, .slice x.pa x.pn x.pc, .slice x.fa x.fn x.fc, .slice x.wa x.wn x.wc, .int .i64 (x.mn : Int), .int .i64 (x.tn : Int), .int .i64 x.un]
def cellsSt (x : Sx) : Array Value := (stRow x).toArray
def stZ : Array Value := #[.int .i64 0, .int .i64 0, .slice none 0 0, .int .u64 0, .int .u64 0, .int .u64 0, .int .u64 0, .slice none 0 0, .slice none 0 0, .slice none 0 0, .int .i64 0, .int .i64 0, .int .i64 0]
theorem cellsSt_one (x : Sx) : (cellsSt x).all (·.oneCell') = true := Array.all_eq_true_iff_forall_mem.2 fun u hu => by
 simp only [cellsSt, stRow, List.mem_toArray, List.mem_cons, List.not_mem_nil, or_false] at hu
 rcases hu with rfl | rfl | rfl | rfl | rfl | rfl | rfl | rfl | rfl | rfl | rfl | rfl | rfl <;> rfl
theorem infoSt : (Tryz.prog.info? 32).map (·.size) = some 13 := by kernel_rfl
def RB (w W : World) (x : Sx) : Prop := Blk W w.heap.size 32 (cellsSt x) ∧ Below w.heap.size w W
theorem RB.new (w : World) (x : Sx) : RB w (w.alloc (.cells (cellsSt x) 32)) x := ⟨Blk.new w _ _, (Below.refl _ _).alloc (Nat.le_refl _) _⟩
theorem RB.next {w W W' : World} {x : Sx} (h : RB w W x) (hb : Below W.heap.size W W') : RB w W' x := ⟨h.1.below hb h.1.lt, h.2.trans (hb.mono h.2.size)⟩
theorem wpList_build_St {ops : Array Oper} {rest : List Oper} {op : Oper} {a : Act} {w : World} {Q : Exit → Act → World → Prop} (hg : op.guard = none) (parts : Array (Nat × Operand)) (ho : op.op = .build 32 parts) (x : Sx)
  (hf : Tryz.prog.built 32 (parts.map fun (i, x) => (i, a.eval x)).toList = some (cellsSt x)) (h : wpList Tryz.prog ops Q rest (a.put op.dst (.agg (cellsSt x))) w) : wpList Tryz.prog ops Q (op :: rest) a w :=
 wpList_build hg 32 parts ho (by rw [hf]; rfl) (by rw [hf]; exact h)
set_option maxHeartbeats 1600000 in
theorem state_any (x : Sx) (w : World) : CallB 9 #[.agg (cellsSx x)] w (.agg (cellsSt x)) := by
 have N0 : Hid (Blk ((w.alloc (.cells (cellsSx x) 28)).alloc (.cells stZ 32)) w.heap.size 28 (cellsSx x)) := Lib.hid ((Blk.new w _ _).alloc _)
 have N1 : Hid (Blk ((w.alloc (.cells (cellsSx x) 28)).alloc (.cells stZ 32)) (w.heap.size + 1) 32 stZ) := Lib.hid (sc_second w _ _ _)
 have HB : Hid (Below w.heap.size w ((w.alloc (.cells (cellsSx x) 28)).alloc (.cells stZ 32))) := Lib.hid (((Below.refl _ _).alloc (Nat.le_refl _) _).alloc (by simp) _)
 go_enter Tryz.func9, Tryz.ntmps9
 go_upto_region 1 with (fail)
 change Code.wp _ _ _ _ ((w.alloc (.cells (cellsSx x) 28)).alloc (.cells stZ 32))
 generalize (w.alloc (.cells (cellsSx x) 28)).alloc (.cells stZ 32) = Wd at *
 have z0 := cel N0.out 0
 have z1 := cel N0.out 1
 have z2 := cel N0.out 2
 have z3 := cel N0.out 3
 have z4 := cel N0.out 4
 have z5 := cel N0.out 5
 have z6 := cel N0.out 6
 have z7 := cel N0.out 7
 have z8 := cel N0.out 8
 have z9 := cel N0.out 9
 have z10 := cel N0.out 10
 have z11 := cel N0.out 11
 have z14 := cel N0.out 14
 go_wp2_with (first | (refine wpList_build_St (op := ⟨some 31, .build _ _, _, _, _, _⟩) rfl _ rfl x (by kernel_rfl) ?_) | (refine wpList_store_row (o := ⟨none, .store _ _ _, _, _, _, _⟩) rfl _ _ _ rfl (w.heap.size + 1) (cellsSt x) rfl rfl 32 _ N1.out infoSt rfl (cellsSt_one x) ?_))
 exact bodyPost_ret (v := .agg (cellsSt x)) (results_cell_row (fn := Tryz.f9) rfl _ _ (w.heap.size + 1) 32 _ (0, 0) _ rfl (setRow_heap _ _ _ _ _ _ N1.out) Tryz.underlying32 rfl infoSt) rfl ⟨rfl, below_setRow HB.out (by omega) _⟩
theorem run_max3 {P : Program} (w : World) (ts : Array TypeId) (t : TypeId) (a b c : Int) : (Builtin.max_ ts t #[.int .i64 a, .int .i64 b, .int .i64 c]).run P w = .ok (.int .i64 (max (max a b) c)) w := by
 have e2 : ∀ x y : Int, (if y > x then y else x) = max x y := fun x y => by
  rw [Int.max_def]
  split <;> split <;> omega
 simp [Builtin.max_, Builtin.max2, e2]
theorem run_min3 {P : Program} (w : World) (ts : Array TypeId) (t : TypeId) (a b c : Int) : (Builtin.min_ ts t #[.int .i64 a, .int .i64 b, .int .i64 c]).run P w = .ok (.int .i64 (min (min a b) c)) w := by
 have e2 : ∀ x y : Int, (if y < x then y else x) = min x y := fun x y => by
  rw [Int.min_def]
  split <;> split <;> omega
 simp [Builtin.min_, Builtin.min2, e2]
def fewV (v : Val) : Bool := decide (max (max v.ex v.wd) v.rq ≤ 1152921504606846976 ∧ -1152921504606846976 ≤ min (min v.ex v.wd) v.rq)
def fewS (x : Sx) (V : List Val) : Bool := V.all fewV && decide (x.vn ≤ 60 ∧ x.pn ≤ 60 ∧ x.fn ≤ 60 ∧ x.wn ≤ 60 ∧ x.mn ≤ 60 ∧ x.tn ≤ 60)
set_option maxHeartbeats 6400000 in
theorem few_any (S : Nat → Prop) (x : Sx) (V : List Val) (w : World) (h : Lst w S x.va V) (hl : V.length = x.vn) (hc : x.vn ≤ maxLen) (hp : x.pn ≤ maxLen) (hf : x.fn ≤ maxLen) (hw : x.wn ≤ maxLen) (hm : x.mn ≤ maxLen) (ht : x.tn ≤ maxLen) :
  CallB 11 #[.agg (cellsSt x)] w (.bool (fewS x V)) := by
 have T0 := Lib.hid (RB.new w x)
 have HL := Lib.hid (And.intro h hl)
 obtain ⟨r, hr⟩ := named (fewS x V)
 have HR : Hid (r = (V.all fewV && decide (x.vn ≤ 60 ∧ x.pn ≤ 60 ∧ x.fn ≤ 60 ∧ x.wn ≤ 60 ∧ x.mn ≤ 60 ∧ x.tn ≤ 60))) := Lib.hid hr.symm
 rw [hr]
 unfold maxLen at hc hp hf hw hm ht
 clear h hl hr
 go_enter Tryz.func11, Tryz.ntmps11
 go_upto_region 1 with (fail)
 generalize w.alloc (.cells (cellsSt x) 32) = Wd at *
 go_wp2_with fail
 go_loopw [3] (fun s3 wr => ∃ k : Nat, k ≤ x.vn ∧ s3 = .int .i64 k ∧ Hid ((V.take k).all fewV = true) ∧ Hid (RB w wr x)) (fun s3 _ => x.vn - (intOf s3).toNat)
 case atStart => exact ⟨0, by omega, rfl, Lib.hid (by simp), T0⟩
 case round =>
  obtain ⟨k, hk, rfl, HA, T⟩ := hrel
  have z2 := cel T.out.1 2
  by_cases hlt : k < x.vn
  ·obtain ⟨v, hv⟩ : ∃ v, V[k]? = some v := ⟨_, List.getElem?_eq_getElem (by rw [HL.out.2]; exact hlt)⟩
   obtain ⟨b, off, hva, hrg⟩ := (HL.out.1.below T.out.2).at hv
   rw [hva] at z2
   have HRG := Lib.hid hrg
   have HS : Hid ((V.take (k + 1)).all fewV = fewV v) := Lib.hid (by rw [take_snoc hv, List.all_append, HA.out]; simp)
   have HVM : Hid (v ∈ V) := Lib.hid (List.mem_of_getElem? hv)
   have T1 := Lib.hid (T.out.next ((Below.refl _ wr).alloc (Nat.le_refl _) (.cells (cellsV v) 68)))
   have N1 : Hid (Blk (wr.alloc (.cells (cellsV v) 68)) wr.heap.size 68 (cellsV v)) := Lib.hid (Blk.new wr _ _)
   clear hrg hv hva HA T
   go_upto_region 5 with (first | (refine wpList_load_val rfl 68 _ rfl b (off + k * 7) rfl v _ HRG.out Tryz.underlying68 rfl infoV ?_) | (refine wsr wr.heap.size (cellsV v) 68 (heap_alloc_new wr _) infoV (cellsV_one _) ?_; rw [World.setRow_alloc_new]))
   try simp only [Act.put]
   clear HRG z2
   generalize wr.alloc (.cells (cellsV v) 68) = W at *
   generalize wr.heap.size = g at *
   have y3 := cel N1.out 3
   have y4 := cel N1.out 4
   have y5 := cel N1.out 5
   obtain ⟨M, hM⟩ := named (max (max v.ex v.wd) v.rq)
   obtain ⟨m, hmn⟩ := named (min (min v.ex v.wd) v.rq)
   have hmx : ∀ (ts : Array TypeId) (t : TypeId) (w : World), (Builtin.max_ ts t #[.int .i64 v.ex, .int .i64 v.wd, .int .i64 v.rq]).run Tryz.prog w = .ok (.int .i64 M) w := fun ts t w => by rw [run_max3, hM]
   have hmi : ∀ (ts : Array TypeId) (t : TypeId) (w : World), (Builtin.min_ ts t #[.int .i64 v.ex, .int .i64 v.wd, .int .i64 v.rq]).run Tryz.prog w = .ok (.int .i64 m) w := fun ts t w => by rw [run_min3, hmn]
   have HF : Hid (fewV v = decide (M ≤ 1152921504606846976 ∧ -1152921504606846976 ≤ m)) := Lib.hid (by unfold fewV; rw [hM, hmn])
   clear hM hmn N1
   by_cases h1 : 1152921504606846976 < M
   ·have d1 : decide (1152921504606846976 < M) = true := decide_eq_true h1
    have hrf : r = false := by
     have : V.all fewV = false := by
      rw [Bool.eq_false_iff]
      intro hall
      have h3 := List.all_eq_true.1 hall v HVM.out
      rw [HF.out, decide_eq_true_eq] at h3
      omega
     rw [HR.out, this]
     rfl
    subst hrf
    clear h1
    go_wp2_with fail
    go_ret
    exact ⟨rfl, T1.out.2⟩
   ·have d1 : decide (1152921504606846976 < M) = false := decide_eq_false h1
    by_cases h2 : m < -1152921504606846976
    ·have d2 : decide (m < -1152921504606846976) = true := decide_eq_true h2
     have hrf : r = false := by
      have : V.all fewV = false := by
       rw [Bool.eq_false_iff]
       intro hall
       have h3 := List.all_eq_true.1 hall v HVM.out
       rw [HF.out, decide_eq_true_eq] at h3
       omega
      rw [HR.out, this]
      rfl
     subst hrf
     clear h1 h2
     go_wp2_with fail
     go_ret
     exact ⟨rfl, T1.out.2⟩
    ·have d2 : decide (m < -1152921504606846976) = false := decide_eq_false h2
     have HA2 : Hid ((V.take (k + 1)).all fewV = true) := Lib.hid (by rw [HS.out, HF.out, decide_eq_true_eq]; omega)
     clear h1 h2 HS HF
     go_wp2_with fail
     go_roundw
     case rel => exact ⟨k + 1, by omega, by go_num, HA2, T1⟩
     case measure => simp [intOf]; omega
  ·obtain rfl : k = x.vn := by omega
   have HRE : Hid (r = decide (x.vn ≤ 60 ∧ x.pn ≤ 60 ∧ x.fn ≤ 60 ∧ x.wn ≤ 60 ∧ x.mn ≤ 60 ∧ x.tn ≤ 60)) := Lib.hid (by
    rw [HR.out]
    have := HA.out
    rw [List.take_of_length_le (by rw [HL.out.2]; exact Nat.le_refl _)] at this
    rw [this, Bool.true_and])
   have z7 := cel T.out.1 7
   have z8 := cel T.out.1 8
   have z9 := cel T.out.1 9
   have z10 : wr.cell? ⟨w.heap.size, 10, none⟩ = some (.int .i64 (x.mn : Int)) := T.out.1.cell 10
   have z11 : wr.cell? ⟨w.heap.size, 11, none⟩ = some (.int .i64 (x.tn : Int)) := T.out.1.cell 11
   clear hlt HA HR
   have hlt : ¬ x.vn < x.vn := by omega
   by_cases q0 : x.vn ≤ 60
   ·have d0 : decide ((x.vn : Int) ≤ 60) = true := decide_eq_true (by omega)
    have e0 : decide (x.vn ≤ 60) = true := decide_eq_true q0
    by_cases q1 : x.pn ≤ 60
    ·have d1 : decide ((x.pn : Int) ≤ 60) = true := decide_eq_true (by omega)
     have e1 : decide (x.pn ≤ 60) = true := decide_eq_true q1
     by_cases q2 : x.fn ≤ 60
     ·have d2 : decide ((x.fn : Int) ≤ 60) = true := decide_eq_true (by omega)
      have e2 : decide (x.fn ≤ 60) = true := decide_eq_true q2
      by_cases q3 : x.wn ≤ 60
      ·have d3 : decide ((x.wn : Int) ≤ 60) = true := decide_eq_true (by omega)
       have e3 : decide (x.wn ≤ 60) = true := decide_eq_true q3
       by_cases q4 : x.mn ≤ 60
       ·have d4 : decide ((x.mn : Int) ≤ 60) = true := decide_eq_true (by omega)
        have e4 : decide (x.mn ≤ 60) = true := decide_eq_true q4
        by_cases q5 : x.tn ≤ 60
        ·have d5 : decide ((x.tn : Int) ≤ 60) = true := decide_eq_true (by omega)
         have e5 : decide (x.tn ≤ 60) = true := decide_eq_true q5
         have hrf : r = true := by rw [HRE.out]; exact decide_eq_true (by omega)
         subst hrf
         clear q0 q1 q2 q3 q4 q5
         go_wp2_with fail
         go_ret
         exact ⟨rfl, T.out.2⟩
        ·have d5 : decide ((x.tn : Int) ≤ 60) = false := decide_eq_false (by omega)
         have e5 : decide (x.tn ≤ 60) = false := decide_eq_false q5
         have hrf : r = false := by rw [HRE.out]; exact decide_eq_false (by omega)
         subst hrf
         clear q0 q1 q2 q3 q4 q5
         go_wp2_with fail
         go_ret
         exact ⟨rfl, T.out.2⟩
       ·have d4 : decide ((x.mn : Int) ≤ 60) = false := decide_eq_false (by omega)
        have e4 : decide (x.mn ≤ 60) = false := decide_eq_false q4
        have hrf : r = false := by rw [HRE.out]; exact decide_eq_false (by omega)
        subst hrf
        clear q0 q1 q2 q3 q4
        go_wp2_with fail
        go_ret
        exact ⟨rfl, T.out.2⟩
      ·have d3 : decide ((x.wn : Int) ≤ 60) = false := decide_eq_false (by omega)
       have e3 : decide (x.wn ≤ 60) = false := decide_eq_false q3
       have hrf : r = false := by rw [HRE.out]; exact decide_eq_false (by omega)
       subst hrf
       clear q0 q1 q2 q3
       go_wp2_with fail
       go_ret
       exact ⟨rfl, T.out.2⟩
     ·have d2 : decide ((x.fn : Int) ≤ 60) = false := decide_eq_false (by omega)
      have e2 : decide (x.fn ≤ 60) = false := decide_eq_false q2
      have hrf : r = false := by rw [HRE.out]; exact decide_eq_false (by omega)
      subst hrf
      clear q0 q1 q2
      go_wp2_with fail
      go_ret
      exact ⟨rfl, T.out.2⟩
    ·have d1 : decide ((x.pn : Int) ≤ 60) = false := decide_eq_false (by omega)
     have e1 : decide (x.pn ≤ 60) = false := decide_eq_false q1
     have hrf : r = false := by rw [HRE.out]; exact decide_eq_false (by omega)
     subst hrf
     clear q0 q1
     go_wp2_with fail
     go_ret
     exact ⟨rfl, T.out.2⟩
   ·have d0 : decide ((x.vn : Int) ≤ 60) = false := decide_eq_false (by omega)
    have e0 : decide (x.vn ≤ 60) = false := decide_eq_false q0
    have hrf : r = false := by rw [HRE.out]; exact decide_eq_false (by omega)
    subst hrf
    clear q0
    go_wp2_with fail
    go_ret
    exact ⟨rfl, T.out.2⟩
end
section
open Go Go.RowKit Go.Deep
set_option maxRecDepth 100000
theorem nums_at {w : World} {base g n cp : Nat} {z : List Int} (h : w.ownsRow base 23 1 (.slice (some ⟨g, 0, none⟩) n cp) n (z.map (Value.int .u64))) (hl : z.length = n) : ∀ i, i < n → w.cell? ⟨g, 0 + i, none⟩ = some (.int .u64 (z.getD i 0)) := fun i hi => by
 have e : (z.map (Value.int .u64))[i]? = some (.int .u64 (z.getD i 0)) := by
  rw [List.getElem?_map, List.getD_eq_getElem?_getD, List.getElem?_eq_getElem (by omega : i < z.length)]
  rfl
 have := h.cells (g := g) rfl i _ e
 rwa [add_plain] at this
theorem refadd_own (v : Value) (base : Nat) (z : List Int) (w : World) (h : w.ownsRow base 23 1 v z.length (z.map (Value.int .u64))) (hl : z.length ≤ 100000) (hz : ∀ i, 0 ≤ z.getD i 0 ∧ z.getD i 0 ≤ 18446744073709551615) :
  CallD 67 #[v] w (.tuple #[.int .u64 (addQ z z.length), .bool (addOk z z.length)]) := by
 rcases h.2 with ⟨rfl, h0⟩ | ⟨g, cp, cur, rfl, _⟩
 ·obtain rfl := List.eq_nil_of_length_eq_zero h0
  exact (refadd_none none 0 w).mono fun e w' ⟨he, hw⟩ => ⟨by rw [he]; rfl, 0, hw.symm⟩
 ·exact refadd_row g 0 z.length cp z w (by omega) (nums_at h rfl) hz
def isB (z : List Int) (want : Int) : Bool := addOk z z.length && decide (addQ z z.length = want)
theorem is_any (v : Value) (base : Nat) (z : List Int) (want : Int) (w : World) (h : w.ownsRow base 23 1 v z.length (z.map (Value.int .u64))) (hl : z.length ≤ 100000) (hz : ∀ i, 0 ≤ z.getD i 0 ∧ z.getD i 0 ≤ 18446744073709551615) :
  CallD 66 #[v, .int .u64 want] w (.bool (isB z want)) := by
 have HA := Lib.hid (refadd_own v base z w h hl hz)
 obtain ⟨r, hr⟩ := named (isB z want)
 rw [hr]
 unfold isB at hr
 generalize addQ z z.length = q at *
 cases ho : addOk z z.length with
 | true =>
  rw [ho] at HA hr
  have d : (q == want) = r := by rw [← hr, Bool.true_and, Bool.eq_iff_iff, beq_iff_eq, decide_eq_true_eq]
  clear h hl hz hr ho
  go_enter Tryz.func66, Tryz.ntmps66
  go_wp2_with fail
  refine HA.out.mono ?_
  rintro e w1 ⟨rfl, m, rfl⟩
  go_wp2_with fail
  go_ret
  exact ⟨rfl, m, rfl⟩
 | false =>
  rw [ho] at HA hr
  have hrf : r = false := by rw [← hr]; rfl
  subst hrf
  clear h hl hz hr ho
  go_enter Tryz.func66, Tryz.ntmps66
  go_wp2_with fail
  refine HA.out.mono ?_
  rintro e w1 ⟨rfl, m, rfl⟩
  go_wp2_with fail
  go_ret
  exact ⟨rfl, m, rfl⟩
set_option maxHeartbeats 1600000 in
theorem live_row (S : Nat → Prop) (a : Option Addr) (n cp : Nat) (l : List Val) (w : World) (h : Lst w S a l) (hl : l.length = n) (hn : n ≤ 4096) :
  Calls Tryz.prog 68 #[.slice a n cp] w fun e w' => ∃ v, e = .returned v ∧ w'.ownsRow w.heap.size 23 1 v (l.filter fun v => liveB v.st).length (numsOf (l.filter fun v => liveB v.st)) ∧ Below w.heap.size w w' := by
 have HL := Lib.hid (And.intro h hl)
 obtain ⟨j0, hj0, hz0, hz1, hz2⟩ := u64_app
 clear h hl
 go_enter Tryz.func68, Tryz.ntmps68
 go_wp2_with fail
 go_loopw [3, 4] (fun s3 s4 wr => ∃ k : Nat, k ≤ n ∧ s4 = .int .i64 k ∧ Hid (wr.ownsRow w.heap.size 23 1 s3 ((l.take k).filter fun v => liveB v.st).length (numsOf ((l.take k).filter fun v => liveB v.st))) ∧ Hid (Below w.heap.size w wr)) (fun _ s4 _ => n - (intOf s4).toNat)
 case atStart => exact ⟨0, by omega, rfl, Lib.hid (World.ownsRow_nil _ _ _ _), Lib.hid (Below.refl _ _)⟩
 case round =>
  obtain ⟨k, hk, rfl, HO, BR⟩ := hrel
  by_cases hlt : k < n
  ·obtain ⟨v, hv⟩ : ∃ v, l[k]? = some v := ⟨_, List.getElem?_eq_getElem (by rw [HL.out.2]; exact hlt)⟩
   obtain ⟨b, off, rfl, e0, e1, _⟩ := (HL.out.1.below BR.out).at2 hv
   have HS := Lib.hid (filter_snoc (fun v => liveB v.st) hv)
   have HV := Lib.hid (fun w => reflive_any v.st w)
   have hlen : ((l.take k).filter fun v => liveB v.st).length ≤ 4096 := by have := List.length_filter_le (fun v : Val => liveB v.st) (l.take k); rw [List.length_take] at this; omega
   have HLE := Lib.hid hlen
   clear hv hlen
   cases hp : liveB v.st with
   | true =>
    have HS2 : Hid ((l.take (k + 1)).filter (fun v => liveB v.st) = (l.take k).filter (fun v => liveB v.st) ++ [v]) := Lib.hid (by rw [HS.out, hp]; rfl)
    rw [hp] at HV
    clear HS hp
    generalize (l.take k).filter (fun v => liveB v.st) = L at *
    obtain ⟨m, hmm⟩ := named (L.length)
    rw [hmm] at HO HLE
    have HMM := Lib.hid hmm
    clear hmm
    go_wp2_with fail
    refine (HV.out _).mono ?_
    rintro e w1 ⟨rfl, rfl⟩
    go_wp2_with (at_builtin; refine wpList_append_src _ rfl _ _ 121 rfl w.heap.size 23 j0 _ 1 8 Tryz.underlying121 hj0 hz0 hz1 hz2 rfl Nat.one_pos u3 m (numsOf L) rfl (HO.out.alloc _) (some ⟨wr.heap.size, 0, none⟩) 1 1 [.int .u64 v.bal] rfl rfl (fun _ => ⟨_, rfl, cell_one_new wr _ _⟩) (by simp [Value.oneCell']) (by have := HLE.out; unfold maxLen; omega) (by have := HLE.out; omega) (by have := BR.out.size; simp; omega) ?_; intro v1 w2 ho hg hv1)
    have HZ : Hid (w2.ownsRow w.heap.size 23 1 v1 ((l.take (k + 1)).filter fun v => liveB v.st).length (numsOf ((l.take (k + 1)).filter fun v => liveB v.st)) ∧ Below w.heap.size w w2) := Lib.hid (by
     refine ⟨by rw [HS2.out, nums_append, List.length_append, HMM.out]; exact ho, ?_⟩
     have hsz := BR.out.size
     refine (BR.out.alloc hsz _).grown hg (by simp; omega) (fun q hq => ?_)
     rcases HO.out.2 with ⟨h1, _⟩ | ⟨g, cp', cur, h1, h2, _⟩
     ·rw [h1] at hq; cases hq
     ·rw [h1] at hq; simp [Value.ownBlock] at hq; omega)
    clear ho hg hv1 e0 e1 HO BR
    go_wp2_with fail
    go_roundw
    case rel => exact ⟨k + 1, by omega, by go_num, Lib.hid HZ.out.1, Lib.hid HZ.out.2⟩
    case measure => simp [intOf]; omega
   | false =>
    have HS2 : Hid ((l.take (k + 1)).filter (fun v => liveB v.st) = (l.take k).filter (fun v => liveB v.st)) := Lib.hid (by rw [HS.out, hp]; simp)
    rw [hp] at HV
    clear HS hp
    go_wp2_with fail
    refine (HV.out _).mono ?_
    rintro e w1 ⟨rfl, rfl⟩
    go_wp2_with fail
    go_roundw
    case rel => exact ⟨k + 1, by omega, by go_num, Lib.hid (by rw [HS2.out]; exact HO.out), BR⟩
    case measure => simp [intOf]; omega
  ·obtain rfl : k = n := by omega
   have HZ : Hid (wr.ownsRow w.heap.size 23 1 u3 (l.filter fun v => liveB v.st).length (numsOf (l.filter fun v => liveB v.st))) := Lib.hid (by
    have := HO.out
    rwa [List.take_of_length_le (by rw [HL.out.2]; exact Nat.le_refl _)] at this)
   clear hlt HO
   have hlt : ¬ k < k := by omega
   go_wp2_with fail
   go_ret
   exact ⟨_, rfl, HZ.out, BR.out⟩
def OwnB1 (w : World) (base : Nat) (v : Value) (z : List Bool) : Prop := w.ownsRow base 4 1 v z.length (z.map Value.bool)
theorem OwnB1.slice {w : World} {base : Nat} {v : Value} {z : List Bool} (h : OwnB1 w base v z) : ∃ a cp, v = .slice a z.length cp ∧ ∀ i, i < z.length → ∃ g, a = some ⟨g, 0, none⟩ ∧ w.cell? ⟨g, i, none⟩ = some (.bool (z.getD i false)) := by
 rcases h.2 with ⟨rfl, h0⟩ | ⟨g, cp, cur, rfl, _⟩
 ·exact ⟨none, 0, by rw [h0], fun i hi => by omega⟩
 ·refine ⟨_, cp, rfl, fun i hi => ⟨g, rfl, ?_⟩⟩
  have e : (z.map Value.bool)[i]? = some (.bool (z.getD i false)) := by
   rw [List.getElem?_map, List.getD_eq_getElem?_getD, List.getElem?_eq_getElem hi]
   rfl
  have := World.ownsRow.cells h (g := g) rfl i _ e
  rwa [add_plain, Nat.zero_add] at this
theorem countB_snoc {z : List Bool} {k : Nat} (hk : k < z.length) : (z.take (k + 1)).count true = (z.take k).count true + if z.getD k false = true then 1 else 0 := by
 have hz : z[k]? = some (z.getD k false) := by rw [List.getD_eq_getElem?_getD, List.getElem?_eq_getElem hk]; rfl
 rw [List.take_add_one, hz]
 simp [List.count_cons]
set_option maxHeartbeats 1600000 in
theorem rcount_any (base : Nat) (v : Value) (z : List Bool) (w : World) (h : OwnB1 w base v z) (hn : z.length ≤ 4096) :
  Calls Tryz.prog 72 #[v] w fun e w' => e = .returned (.int .i64 ((z.count true : Nat) : Int)) ∧ w' = w := by
 obtain ⟨a, cp, rfl, hc⟩ := h.slice
 obtain ⟨n, hnn⟩ := named (z.length)
 have HC := Lib.hid (And.intro hc hnn)
 rw [hnn] at hn ⊢
 clear h hc hnn
 go_enter Tryz.func72, Tryz.ntmps72
 go_wp2_with fail
 go_loop [3, 4] (fun s3 s4 => ∃ k t : Nat, k ≤ n ∧ s4 = .int .i64 k ∧ s3 = .int .i64 t ∧ t ≤ k ∧ Hid (t = (z.take k).count true)) (fun _ s4 => n - (intOf s4).toNat)
 case atStart => exact ⟨0, 0, by omega, rfl, rfl, by omega, Lib.hid (by simp)⟩
 case round =>
  obtain ⟨k, t, hk, rfl, rfl, ht, HT⟩ := hrel
  by_cases hlt : k < n
  ·obtain ⟨g, rfl, hcell⟩ := HC.out.1 k (by rw [HC.out.2]; exact hlt)
   have HS := Lib.hid (countB_snoc (z := z) (k := k) (by rw [HC.out.2]; exact hlt))
   cases hb : z.getD k false with
   | true =>
    rw [hb] at hcell
    have HS2 : Hid ((z.take (k + 1)).count true = t + 1) := Lib.hid (by rw [HS.out, hb, HT.out]; rfl)
    clear HS hb
    go_wp2_with fail
    go_round
    case rel => exact ⟨k + 1, t + 1, by omega, by go_num, by go_num, by omega, Lib.hid HS2.out.symm⟩
    case measure => simp [intOf]; omega
   | false =>
    rw [hb] at hcell
    have HS2 : Hid ((z.take (k + 1)).count true = t) := Lib.hid (by rw [HS.out, hb, HT.out]; rfl)
    clear HS hb
    go_wp2_with fail
    go_round
    case rel => exact ⟨k + 1, t, by omega, by go_num, rfl, by omega, Lib.hid HS2.out.symm⟩
    case measure => simp [intOf]; omega
  ·obtain rfl : k = n := by omega
   have HE : Hid (t = z.count true) := Lib.hid (by rw [HT.out, List.take_of_length_le (by rw [HC.out.2]; exact Nat.le_refl _)])
   clear hlt
   have hlt : ¬ k < k := by omega
   go_wp2_with fail
   go_ret
   exact ⟨by rw [HE.out]; rfl, rfl⟩
set_option maxHeartbeats 3200000 in
theorem once_any (T : Nat → Prop) (base : Nat) (qa : Option Addr) (nq cq : Nat) (L : List Int) (v : Value) (z : List Bool) (w : World) (hq : IntsAt w T qa L) (hql : L.length = nq) (hqn : nq ≤ 10000) (h : OwnB1 w base v z) (hn : z.length ≤ 4096) :
  Calls Tryz.prog 69 #[.slice qa nq cq, v] w fun e w' => e = .returned (.bool (onceB L z)) ∧ w' = w := by
 obtain ⟨a, cp, rfl, hc⟩ := h.slice
 obtain ⟨n, hnn⟩ := named (z.length)
 have HC := Lib.hid (And.intro hc hnn)
 have HQ := Lib.hid (And.intro hq hql)
 obtain ⟨r, hr⟩ := named (onceB L z)
 have HR : Hid (r = (((List.range n).all fun i => onceI L (z.getD i false) i) && decide (sumF (fun i => L.count (i : Int)) n = nq))) := Lib.hid (by rw [← hr, ← hnn, ← hql]; rfl)
 rw [hr]
 rw [hnn] at hn ⊢
 clear h hc hnn hq hql hr
 go_enter Tryz.func69, Tryz.ntmps69
 go_wp2_with fail
 go_loop [5, 6] (fun s5 s6 => ∃ i t : Nat, i ≤ n ∧ s6 = .int .i64 i ∧ s5 = .int .i64 t ∧ t ≤ 10000 ∧ Hid (t = sumF (fun i => L.count (i : Int)) i) ∧ Hid ((List.range i).all (fun i => onceI L (z.getD i false) i) = true)) (fun _ s6 => n - (intOf s6).toNat)
 case atStart => exact ⟨0, 0, by omega, rfl, rfl, by omega, Lib.hid rfl, Lib.hid rfl⟩
 case round =>
  obtain ⟨i, t, hi, rfl, rfl, ht, HT, HA⟩ := hrel
  by_cases hlt : i < n
  ·go_wp2_with fail
   go_loop [7, 8] (fun s7 s8 => ∃ j c : Nat, j ≤ nq ∧ s8 = .int .i64 j ∧ s7 = .int .i64 c ∧ c ≤ j ∧ Hid (c = (L.take j).count (i : Int))) (fun _ s8 => nq - (intOf s8).toNat)
   case atStart => exact ⟨0, 0, by omega, rfl, rfl, by omega, Lib.hid (by simp)⟩
   case round =>
    obtain ⟨j, c, hj, rfl, rfl, hcj, HCJ⟩ := hrel
    by_cases hlt2 : j < nq
    ·obtain ⟨b, off, rfl, _, _, hcc⟩ := HQ.out.1 (by rw [HQ.out.2]; omega)
     have hcell := hcc j (by rw [HQ.out.2]; exact hlt2)
     obtain ⟨y, hy⟩ : ∃ y, L[j]? = some y := ⟨_, List.getElem?_eq_getElem (by rw [HQ.out.2]; exact hlt2)⟩
     rw [List.getD_eq_getElem?_getD, hy, Option.getD_some] at hcell
     have HS : Hid ((L.take (j + 1)).count (i : Int) = c + if y = (i : Int) then 1 else 0) := Lib.hid (by
      rw [List.take_add_one, hy, HCJ.out]
      simp only [Option.toList, List.count_append, List.count_cons, List.count_nil, beq_iff_eq, Nat.zero_add])
     clear hcc hy
     by_cases hyi : y = (i : Int)
     ·have d : (y == (i : Int)) = true := by simpa using hyi
      have HS2 : Hid ((L.take (j + 1)).count (i : Int) = c + 1) := Lib.hid (by rw [HS.out, if_pos hyi])
      clear hyi HS
      go_wp2_with fail
      go_round
      case rel => exact ⟨j + 1, c + 1, by omega, by go_num, by go_num, by omega, Lib.hid HS2.out.symm⟩
      case measure => simp [intOf]; omega
     ·have d : (y == (i : Int)) = false := by simpa using hyi
      have HS2 : Hid ((L.take (j + 1)).count (i : Int) = c) := Lib.hid (by rw [HS.out, if_neg hyi]; rfl)
      clear hyi HS
      go_wp2_with fail
      go_round
      case rel => exact ⟨j + 1, c, by omega, by go_num, rfl, by omega, Lib.hid HS2.out.symm⟩
      case measure => simp [intOf]; omega
    ·obtain rfl : j = nq := by omega
     have HE : Hid (c = L.count (i : Int)) := Lib.hid (by rw [HCJ.out, List.take_of_length_le (by rw [HQ.out.2]; exact Nat.le_refl _)])
     have HTU : Hid (t + c = sumF (fun i => L.count (i : Int)) (i + 1) ∧ t + c ≤ 10000) := Lib.hid (by
      have e1 : sumF (fun i => L.count (i : Int)) (i + 1) = t + c := by rw [sumF, ← HT.out, HE.out]
      have := sum_count (i + 1) L
      have := HQ.out.2
      omega)
     obtain ⟨g, rfl, hcell⟩ := HC.out.1 i (by rw [HC.out.2]; exact hlt)
     obtain ⟨bw, hbw⟩ := named (z.getD i false)
     rw [hbw] at hcell
     have HON : Hid (onceI L (z.getD i false) i = (decide (c ≤ 1) && (decide (c = 1) == bw))) := Lib.hid (by unfold onceI; rw [HE.out, hbw])
     clear hbw
     clear hlt2
     have hlt2 : ¬ j < j := by omega
     by_cases h1 : 1 < c
     ·have d1 : decide ((1 : Int) < (c : Int)) = true := decide_eq_true (by omega)
      have hrf : r = false := by
       have : ((List.range n).all fun i => onceI L (z.getD i false) i) = false := by
        rw [Bool.eq_false_iff]
        intro hall
        have h3 := List.all_eq_true.1 hall i (List.mem_range.2 hlt)
        unfold onceI at h3
        rw [← HE.out] at h3
        simp at h3
        omega
       rw [HR.out, this]
       rfl
      subst hrf
      clear h1
      go_wp2_with fail
      go_ret
      exact ⟨rfl, rfl⟩
     ·have d1 : decide ((1 : Int) < (c : Int)) = false := decide_eq_false (by omega)
      cases bw with
      | true =>
       by_cases h2 : c = 1
       ·skip
        have d2 : ((c : Int) == 1) = true := by rw [h2]; rfl
        have HA2 : Hid ((List.range (i + 1)).all (fun i => onceI L (z.getD i false) i) = true) := Lib.hid (by
         rw [List.range_succ, List.all_append, HA.out]
         simp only [List.all_cons, List.all_nil, HON.out, Bool.true_and, Bool.and_true]
         simp [h2])
        clear h1 h2
        go_wp2_with fail
        go_round
        case rel => exact ⟨i + 1, t + c, by omega, by go_num, by go_num, HTU.out.2, Lib.hid HTU.out.1, HA2⟩
        case measure => simp [intOf]; omega
       ·skip
        have d2 : ((c : Int) == 1) = false := by rw [beq_eq_false_iff_ne]; omega
        have hrf : r = false := by
         have : ((List.range n).all fun i => onceI L (z.getD i false) i) = false := by
          rw [Bool.eq_false_iff]
          intro hall
          have h3 := List.all_eq_true.1 hall i (List.mem_range.2 hlt)
          rw [HON.out] at h3
          simp [h2] at h3
         rw [HR.out, this]
         rfl
        subst hrf
        clear h1 h2
        go_wp2_with fail
        go_ret
        exact ⟨rfl, rfl⟩
      | false =>
       by_cases h2 : c = 1
       ·skip
        have d2 : ((c : Int) == 1) = true := by rw [h2]; rfl
        have hrf : r = false := by
         have : ((List.range n).all fun i => onceI L (z.getD i false) i) = false := by
          rw [Bool.eq_false_iff]
          intro hall
          have h3 := List.all_eq_true.1 hall i (List.mem_range.2 hlt)
          rw [HON.out] at h3
          simp [h2] at h3
         rw [HR.out, this]
         rfl
        subst hrf
        clear h1 h2
        go_wp2_with fail
        go_ret
        exact ⟨rfl, rfl⟩
       ·skip
        have d2 : ((c : Int) == 1) = false := by rw [beq_eq_false_iff_ne]; omega
        have HA2 : Hid ((List.range (i + 1)).all (fun i => onceI L (z.getD i false) i) = true) := Lib.hid (by
         rw [List.range_succ, List.all_append, HA.out]
         simp only [List.all_cons, List.all_nil, HON.out, Bool.true_and, Bool.and_true]
         simp [h2]
         omega)
        clear h1 h2
        go_wp2_with fail
        go_round
        case rel => exact ⟨i + 1, t + c, by omega, by go_num, by go_num, HTU.out.2, Lib.hid HTU.out.1, HA2⟩
        case measure => simp [intOf]; omega
  ·obtain rfl : i = n := by omega
   have d : ((t : Int) == (nq : Int)) = r := by
    rw [HR.out, HA.out, Bool.true_and, ← HT.out, Bool.eq_iff_iff, beq_iff_eq, decide_eq_true_eq]
    omega
   have d2 : (t == nq) = r := by
    rw [← d, Bool.eq_iff_iff, beq_iff_eq, beq_iff_eq]
    omega
   clear hlt
   have hlt : ¬ i < i := by omega
   go_wp2_with fail
   go_ret
   exact ⟨rfl, rfl⟩
end
section
open Go Go.RowKit Go.Deep
set_option maxRecDepth 100000
theorem bool_app : ∃ i, Tryz.prog.info? 4 = some i ∧ i.zero = some (.bool false) ∧ i.size = 1 ∧ i.bytes = 1 := by
 have h : (Tryz.prog.info? 4).map (fun i => (i.zero, i.size, i.bytes)) = some (some (.bool false), 1, 1) := by kernel_rfl
 cases hi : Tryz.prog.info? 4 with
 | none => rw [hi] at h; cases h
 | some i =>
  rw [hi] at h
  simp at h
  exact ⟨i, rfl, h.1, h.2.1, h.2.2⟩
theorem map_snoc {V : List Val} {k : Nat} {v : Val} (p : Val → Bool) (h : V[k]? = some v) : (V.take (k + 1)).map p = (V.take k).map p ++ [p v] := by rw [take_snoc h, List.map_append]; rfl
theorem OwnB1.grow {w wr w1 w2 : World} {x : Sx} {v v1 : Value} {z : List Bool} {bq : Bool} {g : Nat} (h : OwnB1 w1 (w.heap.size + 1) v z) (T : RB w w1 x) (ho : w2.ownsRow (w.heap.size + 1) 4 1 v1 (z.length + 1) (z.map Value.bool ++ [.bool bq])) (hg : (w1.alloc (.cells #[.bool bq] 4)).grownBy w2 v.ownBlock) : OwnB1 w2 (w.heap.size + 1) v1 (z ++ [bq]) ∧ RB w w2 x := by
 have hlt := T.1.lt
 have hsz := T.2.size
 have hge : ∀ q, v.ownBlock = some q → w.heap.size + 1 ≤ q := fun q hq => by
  rcases h.2 with ⟨h1, _⟩ | ⟨g, cp', cur, h1, h2, _⟩
  ·rw [h1] at hq; cases hq
  ·rw [h1] at hq; simp [Value.ownBlock] at hq; omega
 have hT := T.next ((Below.refl _ w1).alloc (Nat.le_refl _) (.cells #[.bool bq] 4))
 refine ⟨?_, hT.1.grown hg (fun e => ?_), hT.2.grown hg hT.2.size (fun q hq => by have := hge q hq; omega)⟩
 ·unfold OwnB1
  rw [List.length_append, List.map_append]
  exact ho
 ·have := hge _ e.symm; omega
set_option maxHeartbeats 3200000 in
theorem chosen5_any (S : Nat → Prop) (x : Sx) (V : List Val) (w : World) (h : Lst w S x.va V) (hl : V.length = x.vn) (hn : x.vn ≤ 4096) :
  Calls Tryz.prog 70 #[.agg (cellsSt x), .int .i64 5] w fun e w' => ∃ v, e = .returned v ∧ OwnB1 w' w.heap.size v (V.map isP) ∧ Below w.heap.size w w' := by
 have T0 := Lib.hid (RB.new w x)
 have HL := Lib.hid (And.intro h hl)
 obtain ⟨j0, hj0, hz0, hz1, hz2⟩ := bool_app
 clear h hl
 go_enter Tryz.func70, Tryz.ntmps70
 go_upto_region 1 with (fail)
 generalize w.alloc (.cells (cellsSt x) 32) = Wd at *
 go_wp2_with fail
 go_loopw [5, 6] (fun s5 s6 wr => ∃ k : Nat, k ≤ x.vn ∧ s6 = .int .i64 k ∧ Hid (OwnB1 wr (w.heap.size + 1) s5 ((V.take k).map isP)) ∧ Hid (RB w wr x)) (fun _ s6 _ => x.vn - (intOf s6).toNat)
 case atStart => exact ⟨0, by omega, rfl, Lib.hid (World.ownsRow_nil _ _ _ _), T0⟩
 case round =>
  obtain ⟨k, hk, rfl, HO, T⟩ := hrel
  have z2 := cel T.out.1 2
  by_cases hlt : k < x.vn
  ·obtain ⟨v, hv⟩ : ∃ v, V[k]? = some v := ⟨_, List.getElem?_eq_getElem (by rw [HL.out.2]; exact hlt)⟩
   obtain ⟨b, off, hva, hrg⟩ := (HL.out.1.below T.out.2).at hv
   rw [hva] at z2
   have HRG := Lib.hid hrg
   have HS := Lib.hid (map_snoc isP hv)
   have T1 := Lib.hid (T.out.next ((Below.refl _ wr).alloc (Nat.le_refl _) (.cells (cellsV v) 68)))
   have O1 := Lib.hid (HO.out.alloc (.cells (cellsV v) 68))
   have N1 : Hid (Blk (wr.alloc (.cells (cellsV v) 68)) wr.heap.size 68 (cellsV v)) := Lib.hid (Blk.new wr _ _)
   have HLE : Hid (((V.take k).map isP).length ≤ 4096) := Lib.hid (by rw [List.length_map, List.length_take]; omega)
   clear hrg hv hva HO T
   generalize hZ : (V.take k).map isP = Z at *
   clear hZ
   go_upto_region 6 with (first | (refine wpList_load_val rfl 68 _ rfl b (off + k * 7) rfl v _ HRG.out Tryz.underlying68 rfl infoV ?_) | (refine wsr wr.heap.size (cellsV v) 68 (heap_alloc_new wr _) infoV (cellsV_one _) ?_; rw [World.setRow_alloc_new]))
   try simp only [Act.put]
   clear HRG z2
   generalize wr.alloc (.cells (cellsV v) 68) = W at *
   generalize wr.heap.size = g at *
   have y1 := cel N1.out 1
   have y4 := cel N1.out 4
   clear N1
   obtain ⟨m, hmm⟩ := named (Z.length)
   have O2 : Hid (W.ownsRow (w.heap.size + 1) 4 1 u5 m (Z.map Value.bool)) := Lib.hid (by rw [← hmm]; exact O1.out)
   rw [hmm] at HLE
   have HMM := Lib.hid hmm
   clear hmm
   obtain ⟨bq, d⟩ : ∃ bq, (v.st == 1) = bq := ⟨_, rfl⟩
   have HP : Hid (isP v = bq) := Lib.hid (by rw [← d]; unfold isP; rw [Bool.eq_iff_iff]; simp)
   go_wp2_with (at_builtin; refine wpList_append_src _ rfl _ _ 127 rfl (w.heap.size + 1) 4 j0 _ 1 1 Tryz.underlying127 hj0 hz0 hz1 hz2 rfl Nat.one_pos u5 m (Z.map Value.bool) rfl (O2.out.alloc _) (some ⟨W.heap.size, 0, none⟩) 1 1 [.bool bq] rfl rfl (fun _ => ⟨_, rfl, cell_one_new W _ _⟩) (by simp [Value.oneCell']) (by have := HLE.out; unfold maxLen; omega) (by have := HLE.out; omega) (by have := T1.out.1.lt; simp; omega) ?_; intro v1 w2 ho hg hv1)
   have HZ : Hid (OwnB1 w2 (w.heap.size + 1) v1 ((V.take (k + 1)).map isP) ∧ RB w w2 x) := Lib.hid (by rw [HS.out, HP.out]; exact OwnB1.grow (wr := W) (g := g) O1.out T1.out (by rw [HMM.out]; exact ho) hg)
   clear ho hg hv1 O1 O2 T1 y1 y4
   go_wp2_with fail
   go_roundw
   case rel => exact ⟨k + 1, by omega, by go_num, Lib.hid HZ.out.1, Lib.hid HZ.out.2⟩
   case measure => simp [intOf]; omega
  ·obtain rfl : k = x.vn := by omega
   have HZ : Hid (OwnB1 wr (w.heap.size + 1) u5 (V.map isP)) := Lib.hid (by
    have := HO.out
    rwa [List.take_of_length_le (by rw [HL.out.2]; exact Nat.le_refl _)] at this)
   clear hlt HO
   have hlt : ¬ x.vn < x.vn := by omega
   go_wp2_with fail
   go_ret
   exact ⟨_, rfl, ownsR_base HZ.out (by omega), T.out.2⟩
set_option maxHeartbeats 3200000 in
theorem chosen6_any (S : Nat → Prop) (x : Sx) (V : List Val) (w : World) (h : Lst w S x.va V) (hl : V.length = x.vn) (hn : x.vn ≤ 4096) :
  Calls Tryz.prog 70 #[.agg (cellsSt x), .int .i64 6] w fun e w' => ∃ v, e = .returned v ∧ OwnB1 w' w.heap.size v (V.map isE) ∧ Below w.heap.size w w' := by
 have T0 := Lib.hid (RB.new w x)
 have HL := Lib.hid (And.intro h hl)
 obtain ⟨j0, hj0, hz0, hz1, hz2⟩ := bool_app
 clear h hl
 go_enter Tryz.func70, Tryz.ntmps70
 go_upto_region 1 with (fail)
 generalize w.alloc (.cells (cellsSt x) 32) = Wd at *
 go_wp2_with fail
 go_loopw [5, 6] (fun s5 s6 wr => ∃ k : Nat, k ≤ x.vn ∧ s6 = .int .i64 k ∧ Hid (OwnB1 wr (w.heap.size + 1) s5 ((V.take k).map isE)) ∧ Hid (RB w wr x)) (fun _ s6 _ => x.vn - (intOf s6).toNat)
 case atStart => exact ⟨0, by omega, rfl, Lib.hid (World.ownsRow_nil _ _ _ _), T0⟩
 case round =>
  obtain ⟨k, hk, rfl, HO, T⟩ := hrel
  have z2 := cel T.out.1 2
  by_cases hlt : k < x.vn
  ·obtain ⟨v, hv⟩ : ∃ v, V[k]? = some v := ⟨_, List.getElem?_eq_getElem (by rw [HL.out.2]; exact hlt)⟩
   obtain ⟨b, off, hva, hrg⟩ := (HL.out.1.below T.out.2).at hv
   rw [hva] at z2
   have HRG := Lib.hid hrg
   have HS := Lib.hid (map_snoc isE hv)
   have T1 := Lib.hid (T.out.next ((Below.refl _ wr).alloc (Nat.le_refl _) (.cells (cellsV v) 68)))
   have O1 := Lib.hid (HO.out.alloc (.cells (cellsV v) 68))
   have N1 : Hid (Blk (wr.alloc (.cells (cellsV v) 68)) wr.heap.size 68 (cellsV v)) := Lib.hid (Blk.new wr _ _)
   have HLE : Hid (((V.take k).map isE).length ≤ 4096) := Lib.hid (by rw [List.length_map, List.length_take]; omega)
   clear hrg hv hva HO T
   generalize hZ : (V.take k).map isE = Z at *
   clear hZ
   go_upto_region 6 with (first | (refine wpList_load_val rfl 68 _ rfl b (off + k * 7) rfl v _ HRG.out Tryz.underlying68 rfl infoV ?_) | (refine wsr wr.heap.size (cellsV v) 68 (heap_alloc_new wr _) infoV (cellsV_one _) ?_; rw [World.setRow_alloc_new]))
   try simp only [Act.put]
   clear HRG z2
   generalize wr.alloc (.cells (cellsV v) 68) = W at *
   generalize wr.heap.size = g at *
   have y1 := cel N1.out 1
   have y4 := cel N1.out 4
   clear N1
   obtain ⟨m, hmm⟩ := named (Z.length)
   have O2 : Hid (W.ownsRow (w.heap.size + 1) 4 1 u5 m (Z.map Value.bool)) := Lib.hid (by rw [← hmm]; exact O1.out)
   rw [hmm] at HLE
   have HMM := Lib.hid hmm
   clear hmm
   by_cases h3 : v.st = 3
   ·have d1 : (v.st == 3) = true := by simpa using h3
    obtain ⟨bq, d⟩ : ∃ bq, (v.ex == -1) = bq := ⟨_, rfl⟩
    have HP : Hid (isE v = bq) := Lib.hid (by rw [← d]; unfold isE; rw [Bool.eq_iff_iff]; simp [h3])
    clear h3
    go_wp2_with (at_builtin; refine wpList_append_src _ rfl _ _ 127 rfl (w.heap.size + 1) 4 j0 _ 1 1 Tryz.underlying127 hj0 hz0 hz1 hz2 rfl Nat.one_pos u5 m (Z.map Value.bool) rfl (O2.out.alloc _) (some ⟨W.heap.size, 0, none⟩) 1 1 [.bool bq] rfl rfl (fun _ => ⟨_, rfl, cell_one_new W _ _⟩) (by simp [Value.oneCell']) (by have := HLE.out; unfold maxLen; omega) (by have := HLE.out; omega) (by have := T1.out.1.lt; simp; omega) ?_; intro v1 w2 ho hg hv1)
    have HZ : Hid (OwnB1 w2 (w.heap.size + 1) v1 ((V.take (k + 1)).map isE) ∧ RB w w2 x) := Lib.hid (by rw [HS.out, HP.out]; exact OwnB1.grow (wr := W) (g := g) O1.out T1.out (by rw [HMM.out]; exact ho) hg)
    clear ho hg hv1 O1 O2 T1 y1 y4
    go_wp2_with fail
    go_roundw
    case rel => exact ⟨k + 1, by omega, by go_num, Lib.hid HZ.out.1, Lib.hid HZ.out.2⟩
    case measure => simp [intOf]; omega
   ·have d1 : (v.st == 3) = false := by simpa using h3
    have HP : Hid (isE v = false) := Lib.hid (by unfold isE; exact decide_eq_false (by omega))
    clear h3
    go_wp2_with (at_builtin; refine wpList_append_src _ rfl _ _ 127 rfl (w.heap.size + 1) 4 j0 _ 1 1 Tryz.underlying127 hj0 hz0 hz1 hz2 rfl Nat.one_pos u5 m (Z.map Value.bool) rfl (O2.out.alloc _) (some ⟨W.heap.size, 0, none⟩) 1 1 [.bool false] rfl rfl (fun _ => ⟨_, rfl, cell_one_new W _ _⟩) (by simp [Value.oneCell']) (by have := HLE.out; unfold maxLen; omega) (by have := HLE.out; omega) (by have := T1.out.1.lt; simp; omega) ?_; intro v1 w2 ho hg hv1)
    have HZ : Hid (OwnB1 w2 (w.heap.size + 1) v1 ((V.take (k + 1)).map isE) ∧ RB w w2 x) := Lib.hid (by rw [HS.out, HP.out]; exact OwnB1.grow (wr := W) (g := g) O1.out T1.out (by rw [HMM.out]; exact ho) hg)
    clear ho hg hv1 O1 O2 T1 y1 y4
    go_wp2_with fail
    go_roundw
    case rel => exact ⟨k + 1, by omega, by go_num, Lib.hid HZ.out.1, Lib.hid HZ.out.2⟩
    case measure => simp [intOf]; omega
  ·obtain rfl : k = x.vn := by omega
   have HZ : Hid (OwnB1 wr (w.heap.size + 1) u5 (V.map isE)) := Lib.hid (by
    have := HO.out
    rwa [List.take_of_length_le (by rw [HL.out.2]; exact Nat.le_refl _)] at this)
   clear hlt HO
   have hlt : ¬ x.vn < x.vn := by omega
   go_wp2_with fail
   go_ret
   exact ⟨_, rfl, ownsR_base HZ.out (by omega), T.out.2⟩
set_option maxHeartbeats 3200000 in
theorem chosen9_any (S : Nat → Prop) (x : Sx) (V : List Val) (w : World) (h : Lst w S x.va V) (hl : V.length = x.vn) (hn : x.vn ≤ 4096) :
  Calls Tryz.prog 70 #[.agg (cellsSt x), .int .i64 9] w fun e w' => ∃ v, e = .returned v ∧ OwnB1 w' w.heap.size v (V.map isU) ∧ Below w.heap.size w w' := by
 have T0 := Lib.hid (RB.new w x)
 have HL := Lib.hid (And.intro h hl)
 obtain ⟨j0, hj0, hz0, hz1, hz2⟩ := bool_app
 clear h hl
 go_enter Tryz.func70, Tryz.ntmps70
 go_upto_region 1 with (fail)
 generalize w.alloc (.cells (cellsSt x) 32) = Wd at *
 go_wp2_with fail
 go_loopw [5, 6] (fun s5 s6 wr => ∃ k : Nat, k ≤ x.vn ∧ s6 = .int .i64 k ∧ Hid (OwnB1 wr (w.heap.size + 1) s5 ((V.take k).map isU)) ∧ Hid (RB w wr x)) (fun _ s6 _ => x.vn - (intOf s6).toNat)
 case atStart => exact ⟨0, by omega, rfl, Lib.hid (World.ownsRow_nil _ _ _ _), T0⟩
 case round =>
  obtain ⟨k, hk, rfl, HO, T⟩ := hrel
  have z2 := cel T.out.1 2
  by_cases hlt : k < x.vn
  ·obtain ⟨v, hv⟩ : ∃ v, V[k]? = some v := ⟨_, List.getElem?_eq_getElem (by rw [HL.out.2]; exact hlt)⟩
   obtain ⟨b, off, hva, hrg⟩ := (HL.out.1.below T.out.2).at hv
   rw [hva] at z2
   have HRG := Lib.hid hrg
   have HS := Lib.hid (map_snoc isU hv)
   have T1 := Lib.hid (T.out.next ((Below.refl _ wr).alloc (Nat.le_refl _) (.cells (cellsV v) 68)))
   have O1 := Lib.hid (HO.out.alloc (.cells (cellsV v) 68))
   have N1 : Hid (Blk (wr.alloc (.cells (cellsV v) 68)) wr.heap.size 68 (cellsV v)) := Lib.hid (Blk.new wr _ _)
   have HLE : Hid (((V.take k).map isU).length ≤ 4096) := Lib.hid (by rw [List.length_map, List.length_take]; omega)
   clear hrg hv hva HO T
   generalize hZ : (V.take k).map isU = Z at *
   clear hZ
   go_upto_region 6 with (first | (refine wpList_load_val rfl 68 _ rfl b (off + k * 7) rfl v _ HRG.out Tryz.underlying68 rfl infoV ?_) | (refine wsr wr.heap.size (cellsV v) 68 (heap_alloc_new wr _) infoV (cellsV_one _) ?_; rw [World.setRow_alloc_new]))
   try simp only [Act.put]
   clear HRG z2
   generalize wr.alloc (.cells (cellsV v) 68) = W at *
   generalize wr.heap.size = g at *
   have y1 := cel N1.out 1
   have y4 := cel N1.out 4
   clear N1
   obtain ⟨m, hmm⟩ := named (Z.length)
   have O2 : Hid (W.ownsRow (w.heap.size + 1) 4 1 u5 m (Z.map Value.bool)) := Lib.hid (by rw [← hmm]; exact O1.out)
   rw [hmm] at HLE
   have HMM := Lib.hid hmm
   clear hmm
   by_cases h4 : v.st = 4
   ·have d1 : (v.st == 4) = true := by simpa using h4
    have HP : Hid (isU v = true) := Lib.hid (by unfold isU; exact decide_eq_true (.inl h4))
    clear h4
    go_wp2_with (at_builtin; refine wpList_append_src _ rfl _ _ 127 rfl (w.heap.size + 1) 4 j0 _ 1 1 Tryz.underlying127 hj0 hz0 hz1 hz2 rfl Nat.one_pos u5 m (Z.map Value.bool) rfl (O2.out.alloc _) (some ⟨W.heap.size, 0, none⟩) 1 1 [.bool true] rfl rfl (fun _ => ⟨_, rfl, cell_one_new W _ _⟩) (by simp [Value.oneCell']) (by have := HLE.out; unfold maxLen; omega) (by have := HLE.out; omega) (by have := T1.out.1.lt; simp; omega) ?_; intro v1 w2 ho hg hv1)
    have HZ : Hid (OwnB1 w2 (w.heap.size + 1) v1 ((V.take (k + 1)).map isU) ∧ RB w w2 x) := Lib.hid (by rw [HS.out, HP.out]; exact OwnB1.grow (wr := W) (g := g) O1.out T1.out (by rw [HMM.out]; exact ho) hg)
    clear ho hg hv1 O1 O2 T1 y1 y4
    go_wp2_with fail
    go_roundw
    case rel => exact ⟨k + 1, by omega, by go_num, Lib.hid HZ.out.1, Lib.hid HZ.out.2⟩
    case measure => simp [intOf]; omega
   ·have d1 : (v.st == 4) = false := by simpa using h4
    by_cases h3 : v.st = 3
    ·have d2 : (v.st == 3) = true := by simpa using h3
     obtain ⟨bq, d⟩ : ∃ bq, (v.ex != -1) = bq := ⟨_, rfl⟩
     have HP : Hid (isU v = bq) := Lib.hid (by rw [← d]; unfold isU; rw [Bool.eq_iff_iff]; simp [h3])
     clear h3 h4
     go_wp2_with (at_builtin; refine wpList_append_src _ rfl _ _ 127 rfl (w.heap.size + 1) 4 j0 _ 1 1 Tryz.underlying127 hj0 hz0 hz1 hz2 rfl Nat.one_pos u5 m (Z.map Value.bool) rfl (O2.out.alloc _) (some ⟨W.heap.size, 0, none⟩) 1 1 [.bool bq] rfl rfl (fun _ => ⟨_, rfl, cell_one_new W _ _⟩) (by simp [Value.oneCell']) (by have := HLE.out; unfold maxLen; omega) (by have := HLE.out; omega) (by have := T1.out.1.lt; simp; omega) ?_; intro v1 w2 ho hg hv1)
     have HZ : Hid (OwnB1 w2 (w.heap.size + 1) v1 ((V.take (k + 1)).map isU) ∧ RB w w2 x) := Lib.hid (by rw [HS.out, HP.out]; exact OwnB1.grow (wr := W) (g := g) O1.out T1.out (by rw [HMM.out]; exact ho) hg)
     clear ho hg hv1 O1 O2 T1 y1 y4
     go_wp2_with fail
     go_roundw
     case rel => exact ⟨k + 1, by omega, by go_num, Lib.hid HZ.out.1, Lib.hid HZ.out.2⟩
     case measure => simp [intOf]; omega
    ·have d2 : (v.st == 3) = false := by simpa using h3
     have HP : Hid (isU v = false) := Lib.hid (by unfold isU; exact decide_eq_false (by omega))
     clear h3 h4
     go_wp2_with (at_builtin; refine wpList_append_src _ rfl _ _ 127 rfl (w.heap.size + 1) 4 j0 _ 1 1 Tryz.underlying127 hj0 hz0 hz1 hz2 rfl Nat.one_pos u5 m (Z.map Value.bool) rfl (O2.out.alloc _) (some ⟨W.heap.size, 0, none⟩) 1 1 [.bool false] rfl rfl (fun _ => ⟨_, rfl, cell_one_new W _ _⟩) (by simp [Value.oneCell']) (by have := HLE.out; unfold maxLen; omega) (by have := HLE.out; omega) (by have := T1.out.1.lt; simp; omega) ?_; intro v1 w2 ho hg hv1)
     have HZ : Hid (OwnB1 w2 (w.heap.size + 1) v1 ((V.take (k + 1)).map isU) ∧ RB w w2 x) := Lib.hid (by rw [HS.out, HP.out]; exact OwnB1.grow (wr := W) (g := g) O1.out T1.out (by rw [HMM.out]; exact ho) hg)
     clear ho hg hv1 O1 O2 T1 y1 y4
     go_wp2_with fail
     go_roundw
     case rel => exact ⟨k + 1, by omega, by go_num, Lib.hid HZ.out.1, Lib.hid HZ.out.2⟩
     case measure => simp [intOf]; omega
  ·obtain rfl : k = x.vn := by omega
   have HZ : Hid (OwnB1 wr (w.heap.size + 1) u5 (V.map isU)) := Lib.hid (by
    have := HO.out
    rwa [List.take_of_length_le (by rw [HL.out.2]; exact Nat.le_refl _)] at this)
   clear hlt HO
   have hlt : ¬ x.vn < x.vn := by omega
   go_wp2_with fail
   go_ret
   exact ⟨_, rfl, ownsR_base HZ.out (by omega), T.out.2⟩
end
section
open Go Go.RowKit Go.Deep
set_option maxRecDepth 100000
set_option maxHeartbeats 1600000 in
theorem repochs_any (v : Val) (c : Nat → Int) (w : World) (w0 : fewV v = true) (c0 : 0 ≤ c 10) (c1 : c 10 ≤ 1048576) :
  CallB 118 #[.agg (cellsV v), .agg (cellsOf c)] w (.bool (okE c v)) := by
 have T1 : Hid (Blk ((w.alloc (.cells (cellsV v) 68)).alloc (.cells (cellsOf c) 30)) w.heap.size 68 (cellsV v)) := Lib.hid ((Blk.new w _ _).alloc _)
 have T2 : Hid (Blk ((w.alloc (.cells (cellsV v) 68)).alloc (.cells (cellsOf c) 30)) (w.heap.size + 1) 30 (cellsOf c)) := Lib.hid (sc_second w _ _ _)
 have T3 : Hid (Below w.heap.size w ((w.alloc (.cells (cellsV v) 68)).alloc (.cells (cellsOf c) 30))) := Lib.hid (((Below.refl _ _).alloc (Nat.le_refl _) _).alloc (by simp) _)
 obtain ⟨r, hr⟩ := named (okE c v)
 have HR : Hid (r = decide (v.ex = -1 ∨ (3 ≤ v.st ∧ v.st ≤ 6) ∧ v.rq < v.ex ∧ c 10 ≤ v.wd - v.ex)) := Lib.hid hr.symm
 have hw : wrap64 (v.wd - v.ex) = v.wd - v.ex := by
  unfold fewV at w0
  rw [decide_eq_true_eq] at w0
  unfold wrap64
  omega
 rw [hr]
 clear hr w0 c0 c1
 go_enter Tryz.func118, Tryz.ntmps118
 go_upto_region 1 with (fail)
 generalize (w.alloc (.cells (cellsV v) 68)).alloc (.cells (cellsOf c) 30) = W at *
 have x1 := cel T1.out 1
 have x3 := cel T1.out 3
 have x4 := cel T1.out 4
 have x5 := cel T1.out 5
 have y10 := cel T2.out 10
 by_cases h : v.ex = -1
 ·have hrt : r = true := by rw [HR.out]; exact decide_eq_true (.inl h)
  subst hrt
  rw [h] at x4
  clear h hw
  go_wp2_with fail
  go_ret
  exact ⟨rfl, T3.out⟩
 ·have d1 : (v.ex == -1) = false := by simpa using h
  by_cases h3 : 3 ≤ v.st
  ·have d3 : decide (3 ≤ v.st) = true := decide_eq_true h3
   by_cases h6 : v.st ≤ 6
   ·have d6 : decide (v.st ≤ 6) = true := decide_eq_true h6
    by_cases h4 : v.rq < v.ex
    ·have d4 : decide (v.rq < v.ex) = true := decide_eq_true h4
     have d5 : decide (c 10 ≤ v.wd - v.ex) = r := by
      rw [HR.out, Bool.eq_iff_iff, decide_eq_true_eq, decide_eq_true_eq]
      omega
     clear h h3 h6 h4
     go_wp2_with fail
     go_ret
     exact ⟨rfl, T3.out⟩
    ·have d4 : decide (v.rq < v.ex) = false := decide_eq_false h4
     have hrf : r = false := by rw [HR.out]; exact decide_eq_false (by omega)
     subst hrf
     clear h h3 h6 h4 hw
     go_wp2_with fail
     go_ret
     exact ⟨rfl, T3.out⟩
   ·have d6 : decide (v.st ≤ 6) = false := decide_eq_false h6
    have hrf : r = false := by rw [HR.out]; exact decide_eq_false (by omega)
    subst hrf
    clear h h3 h6 hw
    go_wp2_with fail
    go_ret
    exact ⟨rfl, T3.out⟩
  ·have d3 : decide (3 ≤ v.st) = false := decide_eq_false h3
   have hrf : r = false := by rw [HR.out]; exact decide_eq_false (by omega)
   subst hrf
   clear h h3 hw
   go_wp2_with fail
   go_ret
   exact ⟨rfl, T3.out⟩
def RCx (w W : World) (x : Sx) (c : Nat → Int) : Prop := Blk W w.heap.size 32 (cellsSt x) ∧ Blk W (w.heap.size + 1) 30 (cellsOf c) ∧ Below w.heap.size w W
theorem RCx.new (w : World) (x : Sx) (c : Nat → Int) : RCx w ((w.alloc (.cells (cellsSt x) 32)).alloc (.cells (cellsOf c) 30)) x c := ⟨(Blk.new w _ _).alloc _, sc_second w _ _ _, ((Below.refl _ _).alloc (Nat.le_refl _) _).alloc (by simp) _⟩
theorem RCx.next {w W W' : World} {x : Sx} {c : Nat → Int} (h : RCx w W x c) (hb : Below W.heap.size W W') : RCx w W' x c := ⟨h.1.below hb h.1.lt, h.2.1.below hb h.2.1.lt, h.2.2.trans (hb.mono h.2.2.size)⟩
theorem infoCg : (Tryz.prog.info? 30).map (·.size) = some 20 := by kernel_rfl
set_option maxHeartbeats 3200000 in
theorem every8_any (S : Nat → Prop) (x : Sx) (c : Nat → Int) (V : List Val) (w : World) (h : Lst w S x.va V) (hl : V.length = x.vn) (hn : x.vn ≤ 4096) :
  CallB 71 #[.agg (cellsSt x), .agg (cellsOf c), .int .i64 8] w (.bool (V.all okZ)) := by
 have T0 := Lib.hid (RCx.new w x c)
 have HL := Lib.hid (And.intro h hl)
 obtain ⟨r, hr⟩ := named (V.all okZ)
 have HR := Lib.hid hr
 rw [hr]
 clear h hl hr
 go_enter Tryz.func71, Tryz.ntmps71
 go_upto_region 1 with (fail)
 generalize (w.alloc (.cells (cellsSt x) 32)).alloc (.cells (cellsOf c) 30) = Wd at *
 go_wp2_with fail
 go_loopw [7] (fun s7 wr => ∃ k : Nat, k ≤ x.vn ∧ s7 = .int .i64 k ∧ Hid ((V.take k).all okZ = true) ∧ Hid (RCx w wr x c)) (fun s7 _ => x.vn - (intOf s7).toNat)
 case atStart => exact ⟨0, by omega, rfl, Lib.hid (by simp), T0⟩
 case round =>
  obtain ⟨k, hk, rfl, HA, T⟩ := hrel
  have z2 := cel T.out.1 2
  by_cases hlt : k < x.vn
  ·obtain ⟨v, hv⟩ : ∃ v, V[k]? = some v := ⟨_, List.getElem?_eq_getElem (by rw [HL.out.2]; exact hlt)⟩
   obtain ⟨b, off, hva, hrg⟩ := (HL.out.1.below T.out.2.2).at hv
   rw [hva] at z2
   have HRG := Lib.hid hrg
   have HS : Hid ((V.take (k + 1)).all okZ = okZ v) := Lib.hid (by rw [take_snoc hv, List.all_append, HA.out]; simp)
   have HVM : Hid (v ∈ V) := Lib.hid (List.mem_of_getElem? hv)
   have HNO : Hid (okZ v = false → r = false) := Lib.hid fun hf => by
    rw [← HR.out, Bool.eq_false_iff]
    intro hall
    have h3 := List.all_eq_true.1 hall v HVM.out
    rw [hf] at h3
    cases h3
   have T1 := Lib.hid (T.out.next ((Below.refl _ wr).alloc (Nat.le_refl _) (.cells (cellsV v) 68)))
   have N1 : Hid (Blk (wr.alloc (.cells (cellsV v) 68)) wr.heap.size 68 (cellsV v)) := Lib.hid (Blk.new wr _ _)
   clear hrg hv hva HA T
   go_upto_region 5 with (first | (refine wpList_load_val rfl 68 _ rfl b (off + k * 7) rfl v _ HRG.out Tryz.underlying68 rfl infoV ?_) | (refine wsr wr.heap.size (cellsV v) 68 (heap_alloc_new wr _) infoV (cellsV_one _) ?_; rw [World.setRow_alloc_new]))
   try simp only [Act.put]
   clear HRG z2
   generalize wr.alloc (.cells (cellsV v) 68) = W at *
   generalize wr.heap.size = g at *
   have y0 := cel N1.out 0
   have y1 := cel N1.out 1
   have y2 : W.cell? ⟨g, 2, none⟩ = some (.bool v.sl) := N1.out.cell 2
   have y6 := cel N1.out 6
   by_cases h6 : v.st = 6
   ·have d6 : (v.st == 6) = true := by simpa using h6
    by_cases h0 : v.bal = 0
    ·have d0 : (v.bal != 0) = false := by simpa using h0
     have HA2 : Hid ((V.take (k + 1)).all okZ = true) := Lib.hid (by rw [HS.out]; unfold okZ; exact decide_eq_true (by omega))
     clear h6 h0
     go_wp2_with fail
     go_roundw
     case rel => exact ⟨k + 1, by omega, by go_num, HA2, T1⟩
     case measure => simp [intOf]; omega
    ·have d0 : (v.bal != 0) = true := by simpa using h0
     obtain rfl : r = false := HNO.out (by unfold okZ; exact decide_eq_false (by omega))
     clear h6 h0
     go_wp2_with fail
     go_ret
     exact ⟨rfl, T1.out.2.2⟩
   ·have d6 : (v.st == 6) = false := by simpa using h6
    by_cases h7 : v.st = 7
    ·have d7 : (v.st == 7) = true := by simpa using h7
     by_cases h0 : v.bal = 0
     ·have d0 : (v.bal != 0) = false := by simpa using h0
      have HA2 : Hid ((V.take (k + 1)).all okZ = true) := Lib.hid (by rw [HS.out]; unfold okZ; exact decide_eq_true (by omega))
      clear h6 h7 h0
      go_wp2_with fail
      go_roundw
      case rel => exact ⟨k + 1, by omega, by go_num, HA2, T1⟩
      case measure => simp [intOf]; omega
     ·have d0 : (v.bal != 0) = true := by simpa using h0
      obtain rfl : r = false := HNO.out (by unfold okZ; exact decide_eq_false (by omega))
      clear h6 h7 h0
      go_wp2_with fail
      go_ret
      exact ⟨rfl, T1.out.2.2⟩
    ·have d7 : (v.st == 7) = false := by simpa using h7
     have HA2 : Hid ((V.take (k + 1)).all okZ = true) := Lib.hid (by rw [HS.out]; unfold okZ; exact decide_eq_true (by omega))
     clear h6 h7
     go_wp2_with fail
     go_roundw
     case rel => exact ⟨k + 1, by omega, by go_num, HA2, T1⟩
     case measure => simp [intOf]; omega
  ·obtain rfl : k = x.vn := by omega
   have hrt : r = true := by
    have := HA.out
    rwa [List.take_of_length_le (by rw [HL.out.2]; exact Nat.le_refl _), HR.out] at this
   subst hrt
   clear hlt HA
   have hlt : ¬ x.vn < x.vn := by omega
   go_wp2_with fail
   go_ret
   exact ⟨rfl, T.out.2.2⟩
set_option maxHeartbeats 3200000 in
theorem every12_any (S : Nat → Prop) (x : Sx) (c : Nat → Int) (V : List Val) (w : World) (h : Lst w S x.va V) (hl : V.length = x.vn) (hn : x.vn ≤ 4096) :
  CallB 71 #[.agg (cellsSt x), .agg (cellsOf c), .int .i64 12] w (.bool (V.all okS)) := by
 have T0 := Lib.hid (RCx.new w x c)
 have HL := Lib.hid (And.intro h hl)
 obtain ⟨r, hr⟩ := named (V.all okS)
 have HR := Lib.hid hr
 rw [hr]
 clear h hl hr
 go_enter Tryz.func71, Tryz.ntmps71
 go_upto_region 1 with (fail)
 generalize (w.alloc (.cells (cellsSt x) 32)).alloc (.cells (cellsOf c) 30) = Wd at *
 go_wp2_with fail
 go_loopw [7] (fun s7 wr => ∃ k : Nat, k ≤ x.vn ∧ s7 = .int .i64 k ∧ Hid ((V.take k).all okS = true) ∧ Hid (RCx w wr x c)) (fun s7 _ => x.vn - (intOf s7).toNat)
 case atStart => exact ⟨0, by omega, rfl, Lib.hid (by simp), T0⟩
 case round =>
  obtain ⟨k, hk, rfl, HA, T⟩ := hrel
  have z2 := cel T.out.1 2
  by_cases hlt : k < x.vn
  ·obtain ⟨v, hv⟩ : ∃ v, V[k]? = some v := ⟨_, List.getElem?_eq_getElem (by rw [HL.out.2]; exact hlt)⟩
   obtain ⟨b, off, hva, hrg⟩ := (HL.out.1.below T.out.2.2).at hv
   rw [hva] at z2
   have HRG := Lib.hid hrg
   have HS : Hid ((V.take (k + 1)).all okS = okS v) := Lib.hid (by rw [take_snoc hv, List.all_append, HA.out]; simp)
   have HVM : Hid (v ∈ V) := Lib.hid (List.mem_of_getElem? hv)
   have HNO : Hid (okS v = false → r = false) := Lib.hid fun hf => by
    rw [← HR.out, Bool.eq_false_iff]
    intro hall
    have h3 := List.all_eq_true.1 hall v HVM.out
    rw [hf] at h3
    cases h3
   have T1 := Lib.hid (T.out.next ((Below.refl _ wr).alloc (Nat.le_refl _) (.cells (cellsV v) 68)))
   have N1 : Hid (Blk (wr.alloc (.cells (cellsV v) 68)) wr.heap.size 68 (cellsV v)) := Lib.hid (Blk.new wr _ _)
   clear hrg hv hva HA T
   go_upto_region 5 with (first | (refine wpList_load_val rfl 68 _ rfl b (off + k * 7) rfl v _ HRG.out Tryz.underlying68 rfl infoV ?_) | (refine wsr wr.heap.size (cellsV v) 68 (heap_alloc_new wr _) infoV (cellsV_one _) ?_; rw [World.setRow_alloc_new]))
   try simp only [Act.put]
   clear HRG z2
   generalize wr.alloc (.cells (cellsV v) 68) = W at *
   generalize wr.heap.size = g at *
   have y0 := cel N1.out 0
   have y1 := cel N1.out 1
   have y2 : W.cell? ⟨g, 2, none⟩ = some (.bool v.sl) := N1.out.cell 2
   have y6 := cel N1.out 6
   have HD : okS v = decide (v.sl = false ∨ (3 ≤ v.st ∧ v.st ≤ 6) ∧ v.dl = -1) := rfl
   have HDD := Lib.hid HD
   clear HD
   cases hs : v.sl with
   | false =>
    have HSL := Lib.hid hs
    rw [hs] at y2
    have HA2 : Hid ((V.take (k + 1)).all okS = true) := Lib.hid (by rw [HS.out]; rw [HDD.out]; exact decide_eq_true (.inl HSL.out))
    clear hs
    go_wp2_with fail
    go_roundw
    case rel => exact ⟨k + 1, by omega, by go_num, HA2, T1⟩
    case measure => simp [intOf]; omega
   | true =>
    have HSL := Lib.hid hs
    rw [hs] at y2
    clear hs
    by_cases h3 : v.st < 3
    ·have d3 : decide (v.st < 3) = true := decide_eq_true h3
     obtain rfl : r = false := HNO.out (by rw [HDD.out]; exact decide_eq_false (by rw [HSL.out]; simp; omega))
     clear h3
     go_wp2_with fail
     go_ret
     exact ⟨rfl, T1.out.2.2⟩
    ·have d3 : decide (v.st < 3) = false := decide_eq_false h3
     by_cases h6 : 6 < v.st
     ·have d6 : decide (6 < v.st) = true := decide_eq_true h6
      obtain rfl : r = false := HNO.out (by rw [HDD.out]; exact decide_eq_false (by rw [HSL.out]; simp; omega))
      clear h3 h6
      go_wp2_with fail
      go_ret
      exact ⟨rfl, T1.out.2.2⟩
     ·have d6 : decide (6 < v.st) = false := decide_eq_false h6
      by_cases h1 : v.dl = -1
      ·have d1 : (v.dl != -1) = false := by simpa using h1
       have HA2 : Hid ((V.take (k + 1)).all okS = true) := Lib.hid (by rw [HS.out]; rw [HDD.out]; exact decide_eq_true (.inr ⟨⟨by omega, by omega⟩, h1⟩))
       clear h3 h6 h1
       go_wp2_with fail
       go_roundw
       case rel => exact ⟨k + 1, by omega, by go_num, HA2, T1⟩
       case measure => simp [intOf]; omega
      ·have d1 : (v.dl != -1) = true := by simpa using h1
       obtain rfl : r = false := HNO.out (by rw [HDD.out]; exact decide_eq_false (by rw [HSL.out]; simp; omega))
       clear h3 h6 h1
       go_wp2_with fail
       go_ret
       exact ⟨rfl, T1.out.2.2⟩
  ·obtain rfl : k = x.vn := by omega
   have hrt : r = true := by
    have := HA.out
    rwa [List.take_of_length_le (by rw [HL.out.2]; exact Nat.le_refl _), HR.out] at this
   subst hrt
   clear hlt HA
   have hlt : ¬ x.vn < x.vn := by omega
   go_wp2_with fail
   go_ret
   exact ⟨rfl, T.out.2.2⟩
set_option maxHeartbeats 3200000 in
theorem every7_any (S : Nat → Prop) (x : Sx) (c : Nat → Int) (V : List Val) (w : World) (h : Lst w S x.va V) (hl : V.length = x.vn) (hn : x.vn ≤ 4096) (hf : V.all fewV = true) (c0 : 0 ≤ c 10) (c1 : c 10 ≤ 1048576) :
  CallB 71 #[.agg (cellsSt x), .agg (cellsOf c), .int .i64 7] w (.bool (V.all (okE c))) := by
 have T0 := Lib.hid (RCx.new w x c)
 have HL := Lib.hid (And.intro h hl)
 have HP : Hid ((∀ v ∈ V, fewV v = true) ∧ 0 ≤ c 10 ∧ c 10 ≤ 1048576) := Lib.hid ⟨List.all_eq_true.1 hf, c0, c1⟩
 clear hf c0 c1
 obtain ⟨r, hr⟩ := named (V.all (okE c))
 have HR := Lib.hid hr
 rw [hr]
 clear h hl hr
 go_enter Tryz.func71, Tryz.ntmps71
 go_upto_region 1 with (fail)
 generalize (w.alloc (.cells (cellsSt x) 32)).alloc (.cells (cellsOf c) 30) = Wd at *
 go_wp2_with fail
 go_loopw [7] (fun s7 wr => ∃ k : Nat, k ≤ x.vn ∧ s7 = .int .i64 k ∧ Hid ((V.take k).all (okE c) = true) ∧ Hid (RCx w wr x c)) (fun s7 _ => x.vn - (intOf s7).toNat)
 case atStart => exact ⟨0, by omega, rfl, Lib.hid (by simp), T0⟩
 case round =>
  obtain ⟨k, hk, rfl, HA, T⟩ := hrel
  have z2 := cel T.out.1 2
  by_cases hlt : k < x.vn
  ·obtain ⟨v, hv⟩ : ∃ v, V[k]? = some v := ⟨_, List.getElem?_eq_getElem (by rw [HL.out.2]; exact hlt)⟩
   obtain ⟨b, off, hva, hrg⟩ := (HL.out.1.below T.out.2.2).at hv
   rw [hva] at z2
   have HRG := Lib.hid hrg
   have HS : Hid ((V.take (k + 1)).all (okE c) = (okE c) v) := Lib.hid (by rw [take_snoc hv, List.all_append, HA.out]; simp)
   have HVM : Hid (v ∈ V) := Lib.hid (List.mem_of_getElem? hv)
   have HNO : Hid ((okE c) v = false → r = false) := Lib.hid fun hf => by
    rw [← HR.out, Bool.eq_false_iff]
    intro hall
    have h3 := List.all_eq_true.1 hall v HVM.out
    rw [hf] at h3
    cases h3
   have T1 := Lib.hid (T.out.next ((Below.refl _ wr).alloc (Nat.le_refl _) (.cells (cellsV v) 68)))
   have N1 : Hid (Blk (wr.alloc (.cells (cellsV v) 68)) wr.heap.size 68 (cellsV v)) := Lib.hid (Blk.new wr _ _)
   clear hrg hv hva HA T
   go_upto_region 5 with (first | (refine wpList_load_val rfl 68 _ rfl b (off + k * 7) rfl v _ HRG.out Tryz.underlying68 rfl infoV ?_) | (refine wsr wr.heap.size (cellsV v) 68 (heap_alloc_new wr _) infoV (cellsV_one _) ?_; rw [World.setRow_alloc_new]))
   try simp only [Act.put]
   clear HRG z2
   generalize wr.alloc (.cells (cellsV v) 68) = W at *
   generalize wr.heap.size = g at *
   have y0 := cel N1.out 0
   have y1 := cel N1.out 1
   have y2 : W.cell? ⟨g, 2, none⟩ = some (.bool v.sl) := N1.out.cell 2
   have y6 := cel N1.out 6
   have HE := Lib.hid (fun w1 => repochs_any v c w1 (HP.out.1 v HVM.out) HP.out.2.1 HP.out.2.2)
   have HN1 := Lib.hid N1.out
   clear y0 y1 y2 y6
   go_wp2_with (first | (refine wpList_load_rowG rfl 68 _ rfl g rfl 68 _ (0, 0) _ HN1.out Tryz.underlying68 rfl infoV ?_) | (refine wpList_load_rowG rfl 30 _ rfl (w.heap.size + 1) rfl 30 _ (0, 0) _ T1.out.2.1 Tryz.underlying30 rfl infoCg ?_))
   refine (HE.out _).mono ?_
   rintro e w3 ⟨rfl, hb⟩
   have T2 := Lib.hid (T1.out.next hb)
   clear hb HE T1 HN1
   cases hq : okE c v with
   | true =>
    have HA2 : Hid ((V.take (k + 1)).all (okE c) = true) := Lib.hid (by rw [HS.out]; exact hq)
    go_wp2_with fail
    go_roundw
    case rel => exact ⟨k + 1, by omega, by go_num, HA2, T2⟩
    case measure => simp [intOf]; omega
   | false =>
    obtain rfl : r = false := HNO.out (by exact hq)
    go_wp2_with fail
    go_ret
    exact ⟨rfl, T2.out.2.2⟩
  ·obtain rfl : k = x.vn := by omega
   have hrt : r = true := by
    have := HA.out
    rwa [List.take_of_length_le (by rw [HL.out.2]; exact Nat.le_refl _), HR.out] at this
   subst hrt
   clear hlt HA
   have hlt : ¬ x.vn < x.vn := by omega
   go_wp2_with fail
   go_ret
   exact ⟨rfl, T.out.2.2⟩
end
section
open Go Go.RowKit Go.Deep
set_option maxRecDepth 100000
theorem sumTo_takeL (z : List Int) : ∀ n, n ≤ z.length → sumTo z n = (z.take n).sum
 | 0, _ => by simp [sumTo]
 | n + 1, h => by
  have e0 : z[n]? = some z[n] := List.getElem?_eq_getElem (by omega)
  have e : z.take (n + 1) = z.take n ++ [z[n]] := by rw [List.take_add_one, e0]; rfl
  rw [sumTo, sumTo_takeL z n (by omega), e, List.sum_append, List.getD_eq_getElem?_getD, e0]
  simp
theorem sumTo_all (z : List Int) : sumTo z z.length = z.sum := by rw [sumTo_takeL z _ (Nat.le_refl _), List.take_length]
theorem tot_sum (V : List Val) : totalOf V = (bals V).sum := by
 induction V with
 | nil => rfl
 | cons v V ih => simp only [totalOf, ih, bals, List.map_cons, List.sum_cons]
theorem isB_eq (z : List Int) (want : Int) (h1 : want ≤ 18446744073709551615) : isB z want = decide (z.sum = want) := by
 unfold isB addOk addQ
 rw [sumTo_all, Bool.eq_iff_iff]
 by_cases h : z.sum ≤ 18446744073709551615
 ·simp [h]
 ·simp [h]
  omega
theorem nums_pair (V : List Val) (p q : Int) : (bals V ++ [p, q]).map (Value.int .u64) = numsOf V ++ [.int .u64 p, .int .u64 q] := by simp [numsOf]
theorem getD_pair {V : List Val} {p q : Int} (h : ∀ v ∈ V, FitsV v) (hp : K64 p) (hq : K64 q) (i : Nat) : 0 ≤ (bals V ++ [p, q]).getD i 0 ∧ (bals V ++ [p, q]).getD i 0 ≤ 18446744073709551615 := by
 rw [List.getD_eq_getElem?_getD]
 cases hi : (bals V ++ [p, q])[i]? with
 | none => simp
 | some y =>
  have hm := List.mem_of_getElem? hi
  simp only [Option.getD_some]
  rcases List.mem_append.1 hm with hm | hm
  ·obtain ⟨v, hv, rfl⟩ := List.mem_map.1 hm
   exact (h v hv).bal
  ·rcases List.mem_cons.1 hm with rfl | hm
   ·exact hp
   ·obtain rfl := List.mem_singleton.1 hm
    exact hq
theorem count_map (p : Val → Bool) (V : List Val) : (V.map p).count true = V.countP p := by
 rw [List.count, List.countP_map]
 congr 1
 funext v
 simp
section
variable {x : Sx} {c : Nat → Int} {V : List Val} {pd F W : List Int} {w : World}
theorem bal_row (h : AuAt w x c V pd F W) : ∀ W1, Below w.heap.size w W1 → Calls Tryz.prog 65 #[.slice x.va x.vn x.vc] W1 fun e w' => ∃ v, e = .returned v ∧ w'.ownsRow W1.heap.size 23 1 v x.vn (numsOf V) ∧ Below W1.heap.size W1 w' := fun W1 hb => by
 have := balances_any (fun _ => False) x.va x.vc V W1 (h.sx.vl.below hb) h.vl
 rwa [h.sx.vn] at this
theorem few_all {V : List Val} (h : fewS x V = true) : V.all fewV = true := by
 unfold fewS at h
 rw [Bool.and_eq_true] at h
 exact h.1
theorem few_len {V : List Val} (h : fewS x V = true) : x.vn ≤ 60 ∧ x.pn ≤ 60 ∧ x.fn ≤ 60 ∧ x.wn ≤ 60 ∧ x.mn ≤ 60 ∧ x.tn ≤ 60 := by
 unfold fewS at h
 rw [Bool.and_eq_true] at h
 exact of_decide_eq_true h.2
set_option maxHeartbeats 3200000 in
theorem hld0_any (h : AuAt w x c V pd F W) (hf : fewS x V = true) : CallB 31 #[.agg (cellsSt x), .agg (cellsOf c), .int .i64 1] w (.bool (ruleB c (anOf x V pd F W) 0)) := by
 have T0 := Lib.hid (RCx.new w x c)
 have HH := Lib.hid (And.intro h hf)
 have HBL := Lib.hid (bal_row h)
 obtain ⟨r, hr⟩ := named (ruleB c (anOf x V pd F W) 0)
 rw [hr]
 have d : decide ((x.vn : Int) ≤ c 0) = r := by rw [← hr, ← h.sx.vn]; rfl
 clear h hf hr
 go_enter Tryz.func31, Tryz.ntmps31
 go_upto_region 1 with (fail)
 generalize (w.alloc (.cells (cellsSt x) 32)).alloc (.cells (cellsOf c) 30) = Wd at *
 have zv := cel T0.out.1 2
 go_wp2_with fail
 refine (HBL.out Wd T0.out.2.2).mono ?_
 rintro e w1 ⟨bv, rfl, ho, hb⟩
 have T1 := Lib.hid (T0.out.next hb)
 have O1 : Hid (w1.ownsRow (w.heap.size + 2) 23 1 bv x.vn (numsOf V)) := Lib.hid (ownsR_base ho (by have := T0.out.2.1.lt; omega))
 clear ho hb zv T0 HBL
 have zv := cel T1.out.1 2
 have y0 := cel T1.out.2.1 0
 go_wp2_with fail
 go_ret
 exact ⟨rfl, T1.out.2.2⟩
set_option maxHeartbeats 3200000 in
theorem hld1_any (h : AuAt w x c V pd F W) (hf : fewS x V = true) : CallB 31 #[.agg (cellsSt x), .agg (cellsOf c), .int .i64 2] w (.bool (ruleB c (anOf x V pd F W) 1)) := by
 have T0 := Lib.hid (RCx.new w x c)
 have HH := Lib.hid (And.intro h hf)
 have HBL := Lib.hid (bal_row h)
 obtain ⟨r, hr⟩ := named (ruleB c (anOf x V pd F W) 1)
 rw [hr]
 have HZ : Hid (isB (bals V ++ [x.P, x.B]) x.D = r) := Lib.hid (by
  rw [isB_eq _ _ h.sx.nums.D.2, ← hr, List.sum_append, ← tot_sum]
  show decide (totalOf V + (x.P + (x.B + 0)) = x.D) = decide (totalOf V + x.P + x.B = x.D)
  rw [Bool.eq_iff_iff, decide_eq_true_eq, decide_eq_true_eq]
  omega)
 obtain ⟨j0, hj0, hz0, hz1, hz2⟩ := u64_app
 have HVN := Lib.hid h.sx.vn
 clear h hf hr
 go_enter Tryz.func31, Tryz.ntmps31
 go_upto_region 1 with (fail)
 generalize (w.alloc (.cells (cellsSt x) 32)).alloc (.cells (cellsOf c) 30) = Wd at *
 have zv := cel T0.out.1 2
 go_wp2_with fail
 refine (HBL.out Wd T0.out.2.2).mono ?_
 rintro e w1 ⟨bv, rfl, ho, hb⟩
 have T1 := Lib.hid (T0.out.next hb)
 have O1 : Hid (w1.ownsRow (w.heap.size + 2) 23 1 bv x.vn (numsOf V)) := Lib.hid (ownsR_base ho (by have := T0.out.2.1.lt; omega))
 clear ho hb zv T0 HBL
 go_wp2_with fail
 refine wrF (fun w' => Blk w' w.heap.size 32 (cellsSt x)) 10 3 [0, 1, 2, 3, 4, 7, 8] (?_) ?_
 ·exact T1.out.1.drew
 simp only [List.filterMap_cons, List.filterMap_nil, List.getElem?_toArray, List.getElem?_cons_zero, List.getElem?_cons_succ]
 show wpQuiet _ _ _ _ [_, _, _, _, _, _, _] _
 iterate 2 (go_big_quiet_step ((intros; rfl)))
 refine qce _ ⟨w.heap.size, 4, none⟩ (.int .u64 x.P) (fun w' h => h.cell 4) ?_
 simp only [Act.put, List.setIfInBounds_toArray, List.set_cons_zero, List.set_cons_succ]
 iterate 1 (go_big_quiet_step ((intros; rfl)))
 refine qce _ ⟨w.heap.size, 5, none⟩ (.int .u64 x.B) (fun w' h => h.cell 5) ?_
 simp only [Act.put, List.setIfInBounds_toArray, List.set_cons_zero, List.set_cons_succ]
 iterate 1 (go_big_quiet_step ((intros; rfl)))
 refine qce _ ⟨w.heap.size, 3, none⟩ (.int .u64 x.D) (fun w' h => h.cell 3) ?_
 simp only [Act.put, List.setIfInBounds_toArray, List.set_cons_zero, List.set_cons_succ]
 refine wpQuiet_nil ?_
 have hvn : x.vn ≤ 60 := (few_len HH.out.2).1
 have O2 := Lib.hid (ownsR_below O1.out (Below.refl _ w1).drew)
 have T2 := Lib.hid (T1.out.next (Below.refl _ w1).drew)
 clear O1 T1
 generalize w1.drew = w1 at *
 have T3 := Lib.hid (T2.out.next ((Below.refl _ w1).alloc (Nat.le_refl _) (.cells #[.int .u64 x.P, .int .u64 x.B] 23)))
 refine hfO (i := 5) ?_
 refine wpOp_at rfl rfl (wp_buildSlice_two 121 23 (.tmp 26) (.tmp 28) _ _ (.int .u64 x.P) (.int .u64 x.B) rfl rfl rfl Tryz.underlying121 u64_info rfl rfl rfl ⟨T3.out.1, ?_⟩)
 refine hfO (i := 6) ?_
 try simp only [Act.put, List.getElem_toArray, List.getElem_cons_zero, List.getElem_cons_succ, List.setIfInBounds_toArray, List.set_cons_zero, List.set_cons_succ, List.drop_succ_cons, List.drop_zero]
 refine wpOp_at rfl rfl (wp_append_src _ (.tmp 24) (.tmp 29) 121 rfl (w.heap.size + 2) 23 j0 _ 1 8 Tryz.underlying121 hj0 hz0 hz1 hz2 rfl Nat.one_pos bv x.vn (numsOf V) rfl (O2.out.alloc _) (some ⟨w1.heap.size, 0, none⟩) 2 2 [.int .u64 x.P, .int .u64 x.B] rfl rfl (fun _ => ⟨_, rfl, newR_cells w1 _ _⟩) (by simp [Value.oneCell']) (by unfold maxLen; omega) (by omega) (by have := T2.out.2.1.lt; simp; omega) ?_)
 intro v1 w2 ho hg hv1
 have hge : ∀ q, bv.ownBlock = some q → w.heap.size + 2 ≤ q := fun q hq => by
  rcases O2.out.2 with ⟨h1, _⟩ | ⟨g, cp', cur, h1, h2, _⟩
  ·rw [h1] at hq; cases hq
  ·rw [h1] at hq; simp [Value.ownBlock] at hq; omega
 have T4 : Hid (RCx w w2 x c) := Lib.hid ⟨T3.out.1.grown hg (fun e => by have := hge _ e.symm; omega), T3.out.2.1.grown hg (fun e => by have := hge _ e.symm; omega), T3.out.2.2.grown hg T3.out.2.2.size (fun q hq => by have := hge q hq; omega)⟩
 have hlz : (bals V ++ [x.P, x.B]).length = x.vn + 2 := by rw [List.length_append, bals, List.length_map, HVN.out]; rfl
 have HIS := Lib.hid (is_any v1 (w.heap.size + 2) (bals V ++ [x.P, x.B]) x.D w2 (by rw [hlz, nums_pair]; exact ho) (by omega) (getD_pair HH.out.1.sx.vf HH.out.1.sx.nums.P HH.out.1.sx.nums.B))
 rw [HZ.out] at HIS
 clear ho hg hv1 hge hlz O2 T2 T3
 refine ⟨T4.out.1, ?_⟩
 refine hfO (i := 9) ?_
 try simp only [Act.put, List.getElem_toArray, List.getElem_cons_zero, List.getElem_cons_succ, List.setIfInBounds_toArray, List.set_cons_zero, List.set_cons_succ, List.drop_succ_cons, List.drop_zero]
 refine wcA #[v1, .int .u64 x.D] Tryz.call66 ((HIS.out).mono ?_)
 rintro e _ ⟨rfl, m, rfl⟩
 refine ⟨_, rfl, T4.out.1, ?_⟩
 show Region.seqB _ _ _ _ _ = true ∧ _
 refine ⟨by kernel_rfl, ?_⟩
 simp only [Act.put, List.getElem_toArray, List.getElem_cons_zero, List.getElem_cons_succ, List.setIfInBounds_toArray, List.set_cons_zero, List.set_cons_succ, List.drop_succ_cons, List.drop_zero]
 go_wp2
 refine NoPanic.normal ?_
 go_wp2_with fail
 go_ret
 exact ⟨rfl, below_drewN T4.out.2.2 _⟩
set_option maxHeartbeats 3200000 in
theorem hld2_any (h : AuAt w x c V pd F W) (hf : fewS x V = true) : CallB 31 #[.agg (cellsSt x), .agg (cellsOf c), .int .i64 3] w (.bool (ruleB c (anOf x V pd F W) 2)) := by
 have T0 := Lib.hid (RCx.new w x c)
 have HH := Lib.hid (And.intro h hf)
 have HBL := Lib.hid (bal_row h)
 obtain ⟨r, hr⟩ := named (ruleB c (anOf x V pd F W) 2)
 rw [hr]
 have HRS : Hid (∀ (v : Value) (w' : World), w'.ownsRow (w.heap.size + 2) 23 1 v x.vn (numsOf V) → CallD 67 #[v] w' (.tuple #[.int .u64 (if totalOf V ≤ 18446744073709551615 then totalOf V else 0), .bool (decide (totalOf V ≤ 18446744073709551615))])) := Lib.hid fun v w' ho => refsum_any v _ V w' (by rw [h.sx.vn]; exact ho) h.vl h.sx.vf
 by_cases h1 : totalOf V ≤ 18446744073709551615
 ·have d1 : decide (totalOf V ≤ 18446744073709551615) = true := decide_eq_true h1
  rw [d1, if_pos h1] at HRS
  have d : decide (totalOf V ≤ c 4) = r := hr
  generalize totalOf V = b at *
  clear h hf hr h1 d1
  go_enter Tryz.func31, Tryz.ntmps31
  go_upto_region 1 with (fail)
  generalize (w.alloc (.cells (cellsSt x) 32)).alloc (.cells (cellsOf c) 30) = Wd at *
  have zv := cel T0.out.1 2
  go_wp2_with fail
  refine (HBL.out Wd T0.out.2.2).mono ?_
  rintro e w1 ⟨bv, rfl, ho, hb⟩
  have T1 := Lib.hid (T0.out.next hb)
  have O1 : Hid (w1.ownsRow (w.heap.size + 2) 23 1 bv x.vn (numsOf V)) := Lib.hid (ownsR_base ho (by have := T0.out.2.1.lt; omega))
  clear ho hb zv T0 HBL
  have y4 := cel T1.out.2.1 4
  go_wp2_with fail
  refine (HRS.out bv w1 O1.out).mono ?_
  rintro e _ ⟨rfl, m, rfl⟩
  have B2 := Lib.hid (below_drewN T1.out.2.2 m)
  go_wp2_with fail
  go_ret
  exact ⟨rfl, B2.out⟩
 ·have d1 : decide (totalOf V ≤ 18446744073709551615) = false := decide_eq_false h1
  rw [d1, if_neg h1] at HRS
  have hrf : r = false := by rw [← hr]; exact decide_eq_false (show ¬ totalOf V ≤ c 4 by have := h.c4; omega)
  subst hrf
  clear h hf hr h1 d1
  go_enter Tryz.func31, Tryz.ntmps31
  go_upto_region 1 with (fail)
  generalize (w.alloc (.cells (cellsSt x) 32)).alloc (.cells (cellsOf c) 30) = Wd at *
  have zv := cel T0.out.1 2
  go_wp2_with fail
  refine (HBL.out Wd T0.out.2.2).mono ?_
  rintro e w1 ⟨bv, rfl, ho, hb⟩
  have T1 := Lib.hid (T0.out.next hb)
  have O1 : Hid (w1.ownsRow (w.heap.size + 2) 23 1 bv x.vn (numsOf V)) := Lib.hid (ownsR_base ho (by have := T0.out.2.1.lt; omega))
  clear ho hb zv T0 HBL
  have y4 := cel T1.out.2.1 4
  go_wp2_with fail
  refine (HRS.out bv w1 O1.out).mono ?_
  rintro e _ ⟨rfl, m, rfl⟩
  have B2 := Lib.hid (below_drewN T1.out.2.2 m)
  go_wp2_with fail
  go_ret
  exact ⟨rfl, B2.out⟩
set_option maxHeartbeats 3200000 in
theorem hld3_any (h : AuAt w x c V pd F W) (hf : fewS x V = true) : CallB 31 #[.agg (cellsSt x), .agg (cellsOf c), .int .i64 4] w (.bool (ruleB c (anOf x V pd F W) 3)) := by
 have T0 := Lib.hid (RCx.new w x c)
 have HH := Lib.hid (And.intro h hf)
 have HBL := Lib.hid (bal_row h)
 obtain ⟨r, hr⟩ := named (ruleB c (anOf x V pd F W) 3)
 rw [hr]
 have HZ : Hid (isB (bals (V.filter fun v => liveB v.st)) x.ac = r) := Lib.hid (by rw [isB_eq _ _ h.sx.nums.ac.2, ← hr, ← tot_sum, total_live]; rfl)
 have HLV : Hid (∀ W1, Below w.heap.size w W1 → Calls Tryz.prog 68 #[.slice x.va x.vn x.vc] W1 fun e w' => ∃ v, e = .returned v ∧ w'.ownsRow W1.heap.size 23 1 v (V.filter fun v => liveB v.st).length (numsOf (V.filter fun v => liveB v.st)) ∧ Below W1.heap.size W1 w') := Lib.hid fun W1 hb => live_row _ _ _ _ V W1 (h.sx.vl.below hb) h.sx.vn (by have := h.vl; have := h.sx.vn; omega)
 have HIS : Hid (∀ (v : Value) (b : Nat) (W1 : World), W1.ownsRow b 23 1 v (V.filter fun v => liveB v.st).length (numsOf (V.filter fun v => liveB v.st)) → CallD 66 #[v, .int .u64 x.ac] W1 (.bool r)) := Lib.hid fun v b W1 ho => by
  have hb : (bals (V.filter fun v => liveB v.st)).length = (V.filter fun v => liveB v.st).length := by simp [bals]
  rw [← HZ.out]
  exact is_any v b _ x.ac W1 (by rw [hb]; exact ho) (by rw [hb]; have := List.length_filter_le (fun v : Val => liveB v.st) V; have := h.vl; omega) (bals_range fun v hv => h.sx.vf v (List.mem_filter.1 hv).1)
 clear h hf hr
 go_enter Tryz.func31, Tryz.ntmps31
 go_upto_region 1 with (fail)
 generalize (w.alloc (.cells (cellsSt x) 32)).alloc (.cells (cellsOf c) 30) = Wd at *
 have zv := cel T0.out.1 2
 go_wp2_with fail
 refine (HBL.out Wd T0.out.2.2).mono ?_
 rintro e w1 ⟨bv, rfl, ho, hb⟩
 have T1 := Lib.hid (T0.out.next hb)
 have O1 : Hid (w1.ownsRow (w.heap.size + 2) 23 1 bv x.vn (numsOf V)) := Lib.hid (ownsR_base ho (by have := T0.out.2.1.lt; omega))
 clear ho hb zv T0 HBL
 go_wp2_with fail
 refine wrF (fun w' => Blk w' w.heap.size 32 (cellsSt x)) 6 2 [0, 1, 3, 4] (?_) ?_
 ·exact T1.out.1.drew
 simp only [List.filterMap_cons, List.filterMap_nil, List.getElem?_toArray, List.getElem?_cons_zero, List.getElem?_cons_succ]
 show wpQuiet _ _ _ _ [_, _, _, _] _
 iterate 1 (go_big_quiet_step ((intros; rfl)))
 refine qce _ ⟨w.heap.size, 2, none⟩ (.slice x.va x.vn x.vc) (fun w' h => h.cell 2) ?_
 simp only [Act.put, List.setIfInBounds_toArray, List.set_cons_zero, List.set_cons_succ]
 iterate 1 (go_big_quiet_step ((intros; rfl)))
 refine qce _ ⟨w.heap.size, 6, none⟩ (.int .u64 x.ac) (fun w' h => h.cell 6) ?_
 simp only [Act.put, List.setIfInBounds_toArray, List.set_cons_zero, List.set_cons_succ]
 refine wpQuiet_nil ?_
 have T2 := Lib.hid (T1.out.next (Below.refl _ w1).drew)
 clear O1 T1
 generalize w1.drew = w1 at *
 refine hfO (i := 2) ?_
 refine wcA #[.slice x.va x.vn x.vc] Tryz.call68 ((HLV.out w1 T2.out.2.2).mono ?_)
 rintro e w2 ⟨v, rfl, ho, hb⟩
 have O2 := Lib.hid ho
 have T3 := Lib.hid (T2.out.next hb)
 clear ho hb T2
 refine ⟨_, rfl, T3.out.1, ?_⟩
 refine hfO (i := 5) ?_
 try simp only [Act.put, List.getElem_toArray, List.getElem_cons_zero, List.getElem_cons_succ, List.setIfInBounds_toArray, List.set_cons_zero, List.set_cons_succ, List.drop_succ_cons, List.drop_zero]
 refine wcA #[v, .int .u64 x.ac] Tryz.call66 ((HIS.out v _ w2 O2.out).mono ?_)
 rintro e _ ⟨rfl, m, rfl⟩
 refine ⟨_, rfl, T3.out.1, ?_⟩
 show Region.seqB _ _ _ _ _ = true ∧ _
 refine ⟨by kernel_rfl, ?_⟩
 simp only [Act.put, List.getElem_toArray, List.getElem_cons_zero, List.getElem_cons_succ, List.setIfInBounds_toArray, List.set_cons_zero, List.set_cons_succ, List.drop_succ_cons, List.drop_zero]
 go_wp2
 refine NoPanic.normal ?_
 go_wp2_with fail
 go_ret
 exact ⟨rfl, below_drewN T3.out.2.2 _⟩
set_option maxHeartbeats 3200000 in
theorem hld4_any (h : AuAt w x c V pd F W) (hf : fewS x V = true) : CallB 31 #[.agg (cellsSt x), .agg (cellsOf c), .int .i64 5] w (.bool (ruleB c (anOf x V pd F W) 4)) := by
 have T0 := Lib.hid (RCx.new w x c)
 have HH := Lib.hid (And.intro h hf)
 have HBL := Lib.hid (bal_row h)
 obtain ⟨r, hr⟩ := named (ruleB c (anOf x V pd F W) 4)
 rw [hr]
 have HCH : Hid (∀ W1, Below w.heap.size w W1 → Calls Tryz.prog 70 #[.agg (cellsSt x), .int .i64 5] W1 fun e w' => ∃ v, e = .returned v ∧ OwnB1 w' W1.heap.size v (V.map isP) ∧ Below W1.heap.size W1 w') := Lib.hid fun W1 hb => chosen5_any _ x V W1 (h.sx.vl.below hb) h.sx.vn (by have := h.vl; have := h.sx.vn; omega)
 have HON : Hid (∀ (v : Value) (b : Nat) (W1 : World), Below w.heap.size w W1 → OwnB1 W1 b v (V.map isP) → Calls Tryz.prog 69 #[.slice x.pa x.pn x.pc, v] W1 fun e w' => e = .returned (.bool r) ∧ w' = W1) := Lib.hid fun v b W1 hb ho => by
  have := once_any _ b x.pa x.pn x.pc pd v (V.map isP) W1 (h.sx.pl.below hb) h.sx.pn (by have := h.pl; have := h.sx.pn; omega) ho (by rw [List.length_map]; exact h.vl)
  rw [once_exact] at this
  rw [← hr]
  exact this
 clear h hf hr
 go_enter Tryz.func31, Tryz.ntmps31
 go_upto_region 1 with (fail)
 generalize (w.alloc (.cells (cellsSt x) 32)).alloc (.cells (cellsOf c) 30) = Wd at *
 have zv := cel T0.out.1 2
 go_wp2_with fail
 refine (HBL.out Wd T0.out.2.2).mono ?_
 rintro e w1 ⟨bv, rfl, ho, hb⟩
 have T1 := Lib.hid (T0.out.next hb)
 have O1 : Hid (w1.ownsRow (w.heap.size + 2) 23 1 bv x.vn (numsOf V)) := Lib.hid (ownsR_base ho (by have := T0.out.2.1.lt; omega))
 clear ho hb zv T0 HBL
 go_wp2_with fail
 refine wrF (fun w' => Blk w' w.heap.size 32 (cellsSt x)) 5 2 [0, 1, 2] (?_) ?_
 ·exact T1.out.1.drew
 simp only [List.filterMap_cons, List.filterMap_nil, List.getElem?_toArray, List.getElem?_cons_zero, List.getElem?_cons_succ]
 show wpQuiet _ _ _ _ [_, _, _] _
 iterate 1 (go_big_quiet_step ((intros; rfl)))
 refine qce _ ⟨w.heap.size, 7, none⟩ (.slice x.pa x.pn x.pc) (fun w' h => h.cell 7) ?_
 simp only [Act.put, List.setIfInBounds_toArray, List.set_cons_zero, List.set_cons_succ]
 refine q_load 32 _ w.heap.size 32 (cellsSt x) _ rfl rfl rfl (fun w' h => h) Tryz.underlying32 rfl infoSt ?_
 simp only [Act.put, List.setIfInBounds_toArray, List.set_cons_zero, List.set_cons_succ]
 refine wpQuiet_nil ?_
 have T2 := Lib.hid (T1.out.next (Below.refl _ w1).drew)
 clear O1 T1
 generalize w1.drew = w1 at *
 refine hfO (i := 3) ?_
 refine wcA #[.agg (cellsSt x), .int .i64 5] Tryz.call70 ((HCH.out w1 T2.out.2.2).mono ?_)
 rintro e w2 ⟨v, rfl, ho, hb⟩
 have O2 := Lib.hid ho
 have T3 := Lib.hid (T2.out.next hb)
 clear ho hb T2
 refine ⟨_, rfl, T3.out.1, ?_⟩
 refine hfO (i := 4) ?_
 try simp only [Act.put, List.getElem_toArray, List.getElem_cons_zero, List.getElem_cons_succ, List.setIfInBounds_toArray, List.set_cons_zero, List.set_cons_succ, List.drop_succ_cons, List.drop_zero]
 refine wcA #[.slice x.pa x.pn x.pc, v] Tryz.call69 ((HON.out v _ w2 T3.out.2.2 O2.out).mono ?_)
 rintro e _ ⟨rfl, rfl⟩
 refine ⟨_, rfl, T3.out.1, ?_⟩
 show Region.seqB _ _ _ _ _ = true ∧ _
 refine ⟨by kernel_rfl, ?_⟩
 simp only [Act.put, List.getElem_toArray, List.getElem_cons_zero, List.getElem_cons_succ, List.setIfInBounds_toArray, List.set_cons_zero, List.set_cons_succ, List.drop_succ_cons, List.drop_zero]
 go_wp2
 refine NoPanic.normal ?_
 go_wp2_with fail
 go_ret
 exact ⟨rfl, T3.out.2.2⟩
set_option maxHeartbeats 3200000 in
theorem hld5_any (h : AuAt w x c V pd F W) (hf : fewS x V = true) : CallB 31 #[.agg (cellsSt x), .agg (cellsOf c), .int .i64 6] w (.bool (ruleB c (anOf x V pd F W) 5)) := by
 have T0 := Lib.hid (RCx.new w x c)
 have HH := Lib.hid (And.intro h hf)
 have HBL := Lib.hid (bal_row h)
 obtain ⟨r, hr⟩ := named (ruleB c (anOf x V pd F W) 5)
 rw [hr]
 have HCH : Hid (∀ W1, Below w.heap.size w W1 → Calls Tryz.prog 70 #[.agg (cellsSt x), .int .i64 6] W1 fun e w' => ∃ v, e = .returned v ∧ OwnB1 w' W1.heap.size v (V.map isE) ∧ Below W1.heap.size W1 w') := Lib.hid fun W1 hb => chosen6_any _ x V W1 (h.sx.vl.below hb) h.sx.vn (by have := h.vl; have := h.sx.vn; omega)
 have HON : Hid (∀ (u v : Value) (b : Nat) (W1 : World), OwnI W1 0 u (F ++ W) → OwnB1 W1 b v (V.map isE) → Calls Tryz.prog 69 #[u, v] W1 fun e w' => e = .returned (.bool r) ∧ w' = W1) := Lib.hid fun u v b W1 hu ho => by
  obtain ⟨qa, qc, rfl, q1, q2, q3, q4⟩ := ints_of_owns (S := fun _ => False) hu fun _ _ h => h
  have := once_any _ b qa (F ++ W).length qc (F ++ W) v (V.map isE) W1 q4 rfl (by have := h.fl; have := h.wl; rw [List.length_append]; omega) ho (by rw [List.length_map]; exact h.vl)
  rw [once_exact] at this
  rw [← hr]
  exact this
 have HI : Hid ((∀ W1, Below w.heap.size w W1 → IntsAt W1 (fun _ => False) x.fa F) ∧ (∀ W1, Below w.heap.size w W1 → IntsAt W1 (fun _ => False) x.wa W)) := Lib.hid ⟨fun W1 hb => h.sx.fl.below hb, fun W1 hb => h.sx.wl.below hb⟩
 have HFN := Lib.hid (And.intro h.sx.fn h.sx.wn)
 have hfn : x.fn ≤ 60 := (few_len hf).2.2.1
 have hwn : x.wn ≤ 60 := (few_len hf).2.2.2.1
 obtain ⟨i8, hi8, hz8, hs8, hb8⟩ := int_app
 clear h hf hr
 go_enter Tryz.func31, Tryz.ntmps31
 go_upto_region 1 with (fail)
 generalize (w.alloc (.cells (cellsSt x) 32)).alloc (.cells (cellsOf c) 30) = Wd at *
 have zv := cel T0.out.1 2
 go_wp2_with fail
 refine (HBL.out Wd T0.out.2.2).mono ?_
 rintro e w1 ⟨bv, rfl, ho, hb⟩
 have T1 := Lib.hid (T0.out.next hb)
 have O1 : Hid (w1.ownsRow (w.heap.size + 2) 23 1 bv x.vn (numsOf V)) := Lib.hid (ownsR_base ho (by have := T0.out.2.1.lt; omega))
 clear ho hb zv T0 HBL
 go_wp2_with fail
 refine wrF (fun w' => Blk w' w.heap.size 32 (cellsSt x)) 10 5 [1, 2, 4, 5, 7] (?_) ?_
 ·exact T1.out.1.drew
 simp only [List.filterMap_cons, List.filterMap_nil, List.getElem?_toArray, List.getElem?_cons_zero, List.getElem?_cons_succ]
 show wpQuiet _ _ _ _ [_, _, _, _, _] _
 iterate 1 (go_big_quiet_step ((intros; rfl)))
 refine qce _ ⟨w.heap.size, 8, none⟩ (.slice x.fa x.fn x.fc) (fun w' h => h.cell 8) ?_
 simp only [Act.put, List.setIfInBounds_toArray, List.set_cons_zero, List.set_cons_succ]
 iterate 1 (go_big_quiet_step ((intros; rfl)))
 refine qce _ ⟨w.heap.size, 9, none⟩ (.slice x.wa x.wn x.wc) (fun w' h => h.cell 9) ?_
 simp only [Act.put, List.setIfInBounds_toArray, List.set_cons_zero, List.set_cons_succ]
 refine q_load 32 _ w.heap.size 32 (cellsSt x) _ rfl rfl rfl (fun w' h => h) Tryz.underlying32 rfl infoSt ?_
 simp only [Act.put, List.setIfInBounds_toArray, List.set_cons_zero, List.set_cons_succ]
 refine wpQuiet_nil ?_
 have T2 := Lib.hid (T1.out.next (Below.refl _ w1).drew)
 clear O1 T1
 generalize w1.drew = w1 at *
 have T3 := Lib.hid (T2.out.next ((Below.refl _ w1).alloc (Nat.le_refl _) (.cells #[] 3)))
 have E0 : Hid (Blk (w1.alloc (.cells #[] 3)) w1.heap.size 3 #[]) := Lib.hid (Blk.new w1 _ _)
 refine hfO (i := 0) ?_
 refine wpOp_at rfl rfl (wp_buildSlice_zero 24 3 i8 rfl Tryz.underlying24 hi8 ⟨T3.out.1, ?_⟩)
 have hsz : w.heap.size + 2 ≤ w1.heap.size := by have := T2.out.2.1.lt; omega
 have O0 : Hid (OwnI (w1.alloc (.cells #[] 3)) (w.heap.size + 2) (.slice (some ⟨w1.heap.size, 0, none⟩) 0 0) []) := Lib.hid (owns_empty E0.out hsz)
 clear T2 E0
 generalize w1.alloc (.cells #[] 3) = w2 at *
 generalize w1.heap.size = g at *
 refine hfO (i := 3) ?_
 try simp only [Act.put, List.getElem_toArray, List.getElem_cons_zero, List.getElem_cons_succ, List.setIfInBounds_toArray, List.set_cons_zero, List.set_cons_succ, List.drop_succ_cons, List.drop_zero]
 have grow : Hid (∀ (v : Value) (l : List Int) (u1 u2 : World), OwnI u1 (w.heap.size + 2) v l → RCx w u1 x c → u1.grownBy u2 v.ownBlock → RCx w u2 x c) := Lib.hid fun v l u1 u2 ho hT hg => by
  have hge : ∀ q, v.ownBlock = some q → w.heap.size + 2 ≤ q := fun q hq => by
   rcases ho.2 with ⟨h1, _⟩ | ⟨g, cp', cur, h1, h2, _⟩
   ·rw [h1] at hq; cases hq
   ·rw [h1] at hq; simp [Value.ownBlock] at hq; omega
  exact ⟨hT.1.grown hg (fun e => by have := hge _ e.symm; omega), hT.2.1.grown hg (fun e => by have := hge _ e.symm; omega), hT.2.2.grown hg hT.2.2.size (fun q hq => by have := hge q hq; omega)⟩
 have app : Hid (∀ (v : Value) (l M : List Int) (p : Option Addr) (m cp : Nat) (o : Oper) (a : Act) (u1 : World) (K : Act → World → Prop) (Q : Exit → Act → World → Prop) (s y : Operand), OwnI u1 (w.heap.size + 2) v l → w.heap.size + 2 ≤ u1.heap.size → IntsAt u1 (fun _ => False) p M → M.length = m → l.length + m ≤ 1000 → o.op = .call { callee := .builtin .append, args := #[s, y], argTypes := #[24, 24] } → a.eval s = v → a.eval y = .slice p m cp → (∀ v' w', OwnI w' (w.heap.size + 2) v' (l ++ M) → u1.grownBy w' v.ownBlock → K (a.put o.dst v') w') → o.wp Tryz.prog a u1 K Q) := Lib.hid fun v l M p m cp o a u1 K Q s y H hb0 hM hm h63 ho hs hy hK => by
  subst hm
  refine wp_append_src u1 s y 24 ho (w.heap.size + 2) 3 i8 _ 1 8 Tryz.underlying24 hi8 hz8 hs8 hb8 rfl Nat.one_pos v l.length _ hs H p M.length cp (M.map (Value.int .i64)) hy (by simp) (fun h0 => ?_) (fun u hu => ?_) (by unfold maxLen; omega) (by omega) hb0 fun v' w' h1 h2 h3 => hK v' w' ?_ h2
  ·obtain ⟨b, off, e, _, _, hc⟩ := hM h0
   refine ⟨_, e, fun j u hu => ?_⟩
   rw [List.getElem?_map] at hu
   have hj : j < M.length := by
    rcases Nat.lt_or_ge j M.length with h | h
    ·exact h
    ·rw [List.getElem?_eq_none h] at hu; cases hu
   rw [List.getElem?_eq_getElem hj] at hu
   injection hu with hu
   rw [add_plain, hc j hj, ← hu, List.getD_eq_getElem?_getD, List.getElem?_eq_getElem hj]
   rfl
  ·obtain ⟨i, _, rfl⟩ := List.mem_map.1 hu
   rfl
  ·unfold OwnI
   rw [List.length_append, List.map_append]
   exact h1
 refine wpOp_at rfl rfl (app.out _ _ F x.fa x.fn x.fc _ _ w2 _ _ _ _ O0.out (by have := T3.out.2.1.lt; omega) (HI.out.1 w2 T3.out.2.2) HFN.out.1 (by simp; omega) rfl rfl rfl ?_)
 intro v1 w3 ho hg
 have T4 := Lib.hid (grow.out _ _ _ _ O0.out T3.out hg)
 have O4 : Hid (OwnI w3 (w.heap.size + 2) v1 F) := Lib.hid ho
 clear ho hg T3 O0
 refine ⟨T4.out.1, ?_⟩
 refine hfO (i := 6) ?_
 try simp only [Act.put, List.getElem_toArray, List.getElem_cons_zero, List.getElem_cons_succ, List.setIfInBounds_toArray, List.set_cons_zero, List.set_cons_succ, List.drop_succ_cons, List.drop_zero]
 refine wpOp_at rfl rfl (app.out _ _ W x.wa x.wn x.wc _ _ w3 _ _ _ _ O4.out (by have := T4.out.2.1.lt; omega) (HI.out.2 w3 T4.out.2.2) HFN.out.2 (by rw [HFN.out.1]; omega) rfl rfl rfl ?_)
 intro v2 w4 ho hg
 have T5 := Lib.hid (grow.out _ _ _ _ O4.out T4.out hg)
 have O5 : Hid (OwnI w4 (w.heap.size + 2) v2 (F ++ W)) := Lib.hid ho
 clear ho hg T4 O4
 refine ⟨T5.out.1, ?_⟩
 refine hfO (i := 8) ?_
 try simp only [Act.put, List.getElem_toArray, List.getElem_cons_zero, List.getElem_cons_succ, List.setIfInBounds_toArray, List.set_cons_zero, List.set_cons_succ, List.drop_succ_cons, List.drop_zero]
 refine wcA #[.agg (cellsSt x), .int .i64 6] Tryz.call70 ((HCH.out w4 T5.out.2.2).mono ?_)
 rintro e w5 ⟨v, rfl, ho, hb⟩
 have O6 := Lib.hid ho
 have O7 : Hid (OwnI w5 0 v2 (F ++ W)) := Lib.hid (ownsR_base (ownsR_below O5.out hb) (Nat.zero_le _))
 have T6 := Lib.hid (T5.out.next hb)
 clear ho hb T5 O5
 refine ⟨_, rfl, T6.out.1, ?_⟩
 refine hfO (i := 9) ?_
 try simp only [Act.put, List.getElem_toArray, List.getElem_cons_zero, List.getElem_cons_succ, List.setIfInBounds_toArray, List.set_cons_zero, List.set_cons_succ, List.drop_succ_cons, List.drop_zero]
 refine wcA #[v2, v] Tryz.call69 ((HON.out v2 v _ w5 O7.out O6.out).mono ?_)
 rintro e _ ⟨rfl, rfl⟩
 refine ⟨_, rfl, T6.out.1, ?_⟩
 show Region.seqB _ _ _ _ _ = true ∧ _
 refine ⟨by kernel_rfl, ?_⟩
 simp only [Act.put, List.getElem_toArray, List.getElem_cons_zero, List.getElem_cons_succ, List.setIfInBounds_toArray, List.set_cons_zero, List.set_cons_succ, List.drop_succ_cons, List.drop_zero]
 go_wp2
 refine NoPanic.normal ?_
 go_wp2_with fail
 go_ret
 exact ⟨rfl, T6.out.2.2⟩
set_option maxHeartbeats 3200000 in
theorem hld6_any (h : AuAt w x c V pd F W) (hf : fewS x V = true) : CallB 31 #[.agg (cellsSt x), .agg (cellsOf c), .int .i64 7] w (.bool (ruleB c (anOf x V pd F W) 6)) := by
 have T0 := Lib.hid (RCx.new w x c)
 have HH := Lib.hid (And.intro h hf)
 have HBL := Lib.hid (bal_row h)
 obtain ⟨r, hr⟩ := named (ruleB c (anOf x V pd F W) 6)
 rw [hr]
 have HEV : Hid (∀ W1, Below w.heap.size w W1 → CallB 71 #[.agg (cellsSt x), .agg (cellsOf c), .int .i64 7] W1 (.bool r)) := Lib.hid fun W1 hb => by
  rw [← hr]
  exact every7_any _ x c V W1 (h.sx.vl.below hb) h.sx.vn (by have := h.vl; have := h.sx.vn; omega) (few_all hf) h.c10.1 h.c10.2
 clear h hf hr
 go_enter Tryz.func31, Tryz.ntmps31
 go_upto_region 1 with (fail)
 generalize (w.alloc (.cells (cellsSt x) 32)).alloc (.cells (cellsOf c) 30) = Wd at *
 have zv := cel T0.out.1 2
 go_wp2_with fail
 refine (HBL.out Wd T0.out.2.2).mono ?_
 rintro e w1 ⟨bv, rfl, ho, hb⟩
 have T1 := Lib.hid (T0.out.next hb)
 have O1 : Hid (w1.ownsRow (w.heap.size + 2) 23 1 bv x.vn (numsOf V)) := Lib.hid (ownsR_base ho (by have := T0.out.2.1.lt; omega))
 clear ho hb zv T0 HBL
 go_wp2_with (first | (refine wlr 32 w.heap.size T1.out.1 Tryz.underlying32 infoSt ?_) | (refine wlr 30 (w.heap.size + 1) T1.out.2.1 Tryz.underlying30 infoCg ?_))
 refine (HEV.out w1 T1.out.2.2).mono ?_
 rintro e w2 ⟨rfl, hb⟩
 have B2 : Hid (Below w.heap.size w w2) := Lib.hid (T1.out.2.2.trans (hb.mono T1.out.2.2.size))
 clear hb
 go_wp2_with fail
 go_ret
 exact ⟨rfl, B2.out⟩
set_option maxHeartbeats 3200000 in
theorem hld7_any (h : AuAt w x c V pd F W) (hf : fewS x V = true) : CallB 31 #[.agg (cellsSt x), .agg (cellsOf c), .int .i64 8] w (.bool (ruleB c (anOf x V pd F W) 7)) := by
 have T0 := Lib.hid (RCx.new w x c)
 have HH := Lib.hid (And.intro h hf)
 have HBL := Lib.hid (bal_row h)
 obtain ⟨r, hr⟩ := named (ruleB c (anOf x V pd F W) 7)
 rw [hr]
 have HEV : Hid (∀ W1, Below w.heap.size w W1 → CallB 71 #[.agg (cellsSt x), .agg (cellsOf c), .int .i64 8] W1 (.bool r)) := Lib.hid fun W1 hb => by
  rw [← hr]
  exact every8_any _ x c V W1 (h.sx.vl.below hb) h.sx.vn (by have := h.vl; have := h.sx.vn; omega)
 clear h hf hr
 go_enter Tryz.func31, Tryz.ntmps31
 go_upto_region 1 with (fail)
 generalize (w.alloc (.cells (cellsSt x) 32)).alloc (.cells (cellsOf c) 30) = Wd at *
 have zv := cel T0.out.1 2
 go_wp2_with fail
 refine (HBL.out Wd T0.out.2.2).mono ?_
 rintro e w1 ⟨bv, rfl, ho, hb⟩
 have T1 := Lib.hid (T0.out.next hb)
 have O1 : Hid (w1.ownsRow (w.heap.size + 2) 23 1 bv x.vn (numsOf V)) := Lib.hid (ownsR_base ho (by have := T0.out.2.1.lt; omega))
 clear ho hb zv T0 HBL
 go_wp2_with (first | (refine wlr 32 w.heap.size T1.out.1 Tryz.underlying32 infoSt ?_) | (refine wlr 30 (w.heap.size + 1) T1.out.2.1 Tryz.underlying30 infoCg ?_))
 refine (HEV.out w1 T1.out.2.2).mono ?_
 rintro e w2 ⟨rfl, hb⟩
 have B2 : Hid (Below w.heap.size w w2) := Lib.hid (T1.out.2.2.trans (hb.mono T1.out.2.2.size))
 clear hb
 go_wp2_with fail
 go_ret
 exact ⟨rfl, B2.out⟩
set_option maxHeartbeats 3200000 in
theorem hld11_any (h : AuAt w x c V pd F W) (hf : fewS x V = true) : CallB 31 #[.agg (cellsSt x), .agg (cellsOf c), .int .i64 12] w (.bool (ruleB c (anOf x V pd F W) 11)) := by
 have T0 := Lib.hid (RCx.new w x c)
 have HH := Lib.hid (And.intro h hf)
 have HBL := Lib.hid (bal_row h)
 obtain ⟨r, hr⟩ := named (ruleB c (anOf x V pd F W) 11)
 rw [hr]
 have HEV : Hid (∀ W1, Below w.heap.size w W1 → CallB 71 #[.agg (cellsSt x), .agg (cellsOf c), .int .i64 12] W1 (.bool r)) := Lib.hid fun W1 hb => by
  rw [← hr]
  exact every12_any _ x c V W1 (h.sx.vl.below hb) h.sx.vn (by have := h.vl; have := h.sx.vn; omega)
 clear h hf hr
 go_enter Tryz.func31, Tryz.ntmps31
 go_upto_region 1 with (fail)
 generalize (w.alloc (.cells (cellsSt x) 32)).alloc (.cells (cellsOf c) 30) = Wd at *
 have zv := cel T0.out.1 2
 go_wp2_with fail
 refine (HBL.out Wd T0.out.2.2).mono ?_
 rintro e w1 ⟨bv, rfl, ho, hb⟩
 have T1 := Lib.hid (T0.out.next hb)
 have O1 : Hid (w1.ownsRow (w.heap.size + 2) 23 1 bv x.vn (numsOf V)) := Lib.hid (ownsR_base ho (by have := T0.out.2.1.lt; omega))
 clear ho hb zv T0 HBL
 go_wp2_with (first | (refine wlr 32 w.heap.size T1.out.1 Tryz.underlying32 infoSt ?_) | (refine wlr 30 (w.heap.size + 1) T1.out.2.1 Tryz.underlying30 infoCg ?_))
 refine (HEV.out w1 T1.out.2.2).mono ?_
 rintro e w2 ⟨rfl, hb⟩
 have B2 : Hid (Below w.heap.size w w2) := Lib.hid (T1.out.2.2.trans (hb.mono T1.out.2.2.size))
 clear hb
 go_wp2_with fail
 go_ret
 exact ⟨rfl, B2.out⟩
set_option maxHeartbeats 3200000 in
theorem hld8_any (h : AuAt w x c V pd F W) (hf : fewS x V = true) : CallB 31 #[.agg (cellsSt x), .agg (cellsOf c), .int .i64 9] w (.bool (ruleB c (anOf x V pd F W) 8)) := by
 have T0 := Lib.hid (RCx.new w x c)
 have HH := Lib.hid (And.intro h hf)
 have HBL := Lib.hid (bal_row h)
 obtain ⟨r, hr⟩ := named (ruleB c (anOf x V pd F W) 8)
 rw [hr]
 have HCH : Hid (∀ W1, Below w.heap.size w W1 → Calls Tryz.prog 70 #[.agg (cellsSt x), .int .i64 9] W1 fun e w' => ∃ v, e = .returned v ∧ OwnB1 w' W1.heap.size v (V.map isU) ∧ Below W1.heap.size W1 w') := Lib.hid fun W1 hb => chosen9_any _ x V W1 (h.sx.vl.below hb) h.sx.vn (by have := h.vl; have := h.sx.vn; omega)
 obtain ⟨t, ht⟩ := named (V.countP isU)
 have HCN : Hid (∀ (v : Value) (b : Nat) (W1 : World), OwnB1 W1 b v (V.map isU) → Calls Tryz.prog 72 #[v] W1 fun e w' => e = .returned (.int .i64 (t : Int)) ∧ w' = W1) := Lib.hid fun v b W1 ho => by
  have := rcount_any b v (V.map isU) W1 ho (by rw [List.length_map]; exact h.vl)
  rwa [count_map, ht] at this
 have d : (x.un == (t : Int)) = r := by
  rw [← hr, ← ht, Bool.eq_iff_iff, beq_iff_eq]
  show _ ↔ decide (x.un = (V.countP isU : Nat)) = true
  rw [decide_eq_true_eq]
 clear h hf hr ht
 go_enter Tryz.func31, Tryz.ntmps31
 go_upto_region 1 with (fail)
 generalize (w.alloc (.cells (cellsSt x) 32)).alloc (.cells (cellsOf c) 30) = Wd at *
 have zv := cel T0.out.1 2
 go_wp2_with fail
 refine (HBL.out Wd T0.out.2.2).mono ?_
 rintro e w1 ⟨bv, rfl, ho, hb⟩
 have T1 := Lib.hid (T0.out.next hb)
 have O1 : Hid (w1.ownsRow (w.heap.size + 2) 23 1 bv x.vn (numsOf V)) := Lib.hid (ownsR_base ho (by have := T0.out.2.1.lt; omega))
 clear ho hb zv T0 HBL
 go_wp2_with fail
 refine wrF (fun w' => Blk w' w.heap.size 32 (cellsSt x)) 6 3 [0, 1, 2] (?_) ?_
 ·exact T1.out.1.drew
 simp only [List.filterMap_cons, List.filterMap_nil, List.getElem?_toArray, List.getElem?_cons_zero, List.getElem?_cons_succ]
 show wpQuiet _ _ _ _ [_, _, _] _
 iterate 1 (go_big_quiet_step ((intros; rfl)))
 refine qce _ ⟨w.heap.size, 12, none⟩ (.int .i64 x.un) (fun w' h => h.cell 12) ?_
 simp only [Act.put, List.setIfInBounds_toArray, List.set_cons_zero, List.set_cons_succ]
 refine q_load 32 _ w.heap.size 32 (cellsSt x) _ rfl rfl rfl (fun w' h => h) Tryz.underlying32 rfl infoSt ?_
 simp only [Act.put, List.setIfInBounds_toArray, List.set_cons_zero, List.set_cons_succ]
 refine wpQuiet_nil ?_
 have T2 := Lib.hid (T1.out.next (Below.refl _ w1).drew)
 clear O1 T1
 generalize w1.drew = w1 at *
 refine hfO (i := 3) ?_
 refine wcA #[.agg (cellsSt x), .int .i64 9] Tryz.call70 ((HCH.out w1 T2.out.2.2).mono ?_)
 rintro e w2 ⟨v, rfl, ho, hb⟩
 have O2 := Lib.hid ho
 have T3 := Lib.hid (T2.out.next hb)
 clear ho hb T2
 refine ⟨_, rfl, T3.out.1, ?_⟩
 refine hfO (i := 4) ?_
 try simp only [Act.put, List.getElem_toArray, List.getElem_cons_zero, List.getElem_cons_succ, List.setIfInBounds_toArray, List.set_cons_zero, List.set_cons_succ, List.drop_succ_cons, List.drop_zero]
 refine wcA #[v] Tryz.call72 ((HCN.out v _ w2 O2.out).mono ?_)
 rintro e _ ⟨rfl, rfl⟩
 refine ⟨_, rfl, T3.out.1, ?_⟩
 try simp only [Act.put, List.getElem_toArray, List.getElem_cons_zero, List.getElem_cons_succ, List.setIfInBounds_toArray, List.set_cons_zero, List.set_cons_succ, List.drop_succ_cons, List.drop_zero]
 refine hfT (fun w' => Blk w' w.heap.size 32 (cellsSt x)) (m := 1) (f := 0) [5] (?_) ?_
 ·exact T3.out.1
 simp only [List.filterMap_cons, List.filterMap_nil, List.getElem?_toArray, List.getElem?_cons_zero, List.getElem?_cons_succ]
 show wpQuiet _ _ _ _ [_] _
 iterate 1 (go_big_quiet_step ((intros; rfl)))
 refine wpQuiet_nil ?_
 show Region.seqB _ _ _ _ _ = true ∧ _
 refine ⟨by kernel_rfl, ?_⟩
 simp only [Act.put, List.getElem_toArray, List.getElem_cons_zero, List.getElem_cons_succ, List.setIfInBounds_toArray, List.set_cons_zero, List.set_cons_succ, List.drop_succ_cons, List.drop_zero]
 go_wp2
 refine NoPanic.normal ?_
 go_wp2_with fail
 go_ret
 exact ⟨rfl, T3.out.2.2⟩
set_option maxHeartbeats 3200000 in
theorem hld9_any (h : AuAt w x c V pd F W) (hf : fewS x V = true) : CallB 31 #[.agg (cellsSt x), .agg (cellsOf c), .int .i64 10] w (.bool (ruleB c (anOf x V pd F W) 9)) := by
 have T0 := Lib.hid (RCx.new w x c)
 have HH := Lib.hid (And.intro h hf)
 have HBL := Lib.hid (bal_row h)
 obtain ⟨r, hr⟩ := named (ruleB c (anOf x V pd F W) 9)
 rw [hr]
 have hp := h.sx.pn
 have hfl := h.sx.fn
 have hwl := h.sx.wn
 obtain ⟨q, hq⟩ : ∃ q : Int, max (max (max (max (x.pn : Int) x.fn) x.wn) x.mn) x.tn = q := ⟨_, rfl⟩
 have hmx : ∀ (ts : Array TypeId) (t : TypeId) (w : World), (Builtin.max_ ts t #[.int .i64 (x.pn : Int), .int .i64 (x.fn : Int), .int .i64 (x.wn : Int), .int .i64 (x.mn : Int), .int .i64 (x.tn : Int)]).run Tryz.prog w = .ok (.int .i64 q) w := fun ts t w => by rw [run_max5, hq]
 have d : decide (q ≤ c 1) = r := by
  rw [← hr, Bool.eq_iff_iff, decide_eq_true_eq]
  show _ ↔ decide ((pd.length : Int) ≤ c 1 ∧ (F.length : Int) ≤ c 1 ∧ (W.length : Int) ≤ c 1 ∧ (x.mn : Int) ≤ c 1 ∧ (x.tn : Int) ≤ c 1) = true
  rw [decide_eq_true_eq, hp, hfl, hwl]
  omega
 have HQ := Lib.hid hq
 clear h hf hr hp hfl hwl hq
 go_enter Tryz.func31, Tryz.ntmps31
 go_upto_region 1 with (fail)
 generalize (w.alloc (.cells (cellsSt x) 32)).alloc (.cells (cellsOf c) 30) = Wd at *
 have zv := cel T0.out.1 2
 go_wp2_with fail
 refine (HBL.out Wd T0.out.2.2).mono ?_
 rintro e w1 ⟨bv, rfl, ho, hb⟩
 have T1 := Lib.hid (T0.out.next hb)
 have O1 : Hid (w1.ownsRow (w.heap.size + 2) 23 1 bv x.vn (numsOf V)) := Lib.hid (ownsR_base ho (by have := T0.out.2.1.lt; omega))
 clear ho hb zv T0 HBL
 have zp := cel T1.out.1 7
 have zf := cel T1.out.1 8
 have zw := cel T1.out.1 9
 have zm : w1.cell? ⟨w.heap.size, 10, none⟩ = some (.int .i64 (x.mn : Int)) := T1.out.1.cell 10
 have zt : w1.cell? ⟨w.heap.size, 11, none⟩ = some (.int .i64 (x.tn : Int)) := T1.out.1.cell 11
 have y1 := cel T1.out.2.1 1
 go_wp2_with fail
 go_ret
 exact ⟨rfl, T1.out.2.2⟩
set_option maxHeartbeats 3200000 in
theorem hld10_any (h : AuAt w x c V pd F W) (hf : fewS x V = true) : CallB 31 #[.agg (cellsSt x), .agg (cellsOf c), .int .i64 11] w (.bool (ruleB c (anOf x V pd F W) 10)) := by
 have T0 := Lib.hid (RCx.new w x c)
 have HH := Lib.hid (And.intro h hf)
 have HBL := Lib.hid (bal_row h)
 obtain ⟨r, hr⟩ := named (ruleB c (anOf x V pd F W) 10)
 rw [hr]
 have c13 := h.c13
 have HB := Lib.hid h.sx.nums.bk
 have HRB : Hid (r = decide (0 ≤ x.bk ∧ x.ep = x.bk / c 13)) := Lib.hid hr.symm
 clear h hf hr
 by_cases h0 : 0 ≤ x.bk
 ·have d0 : decide (0 ≤ x.bk) = true := decide_eq_true h0
  have d : (x.ep == x.bk / c 13) = r := by
   rw [HRB.out, Bool.eq_iff_iff, beq_iff_eq, decide_eq_true_eq]
   omega
  have hz : ¬ c 13 = 0 := by omega
  have hq : wrap64 (x.bk.tdiv (c 13)) = x.bk / c 13 := by
   have := HB.out
   unfold J64 at this
   have q0 : 0 ≤ x.bk / c 13 := Int.ediv_nonneg h0 (by omega)
   have q1 : x.bk / c 13 ≤ x.bk := Int.ediv_le_self _ h0
   rw [Int.tdiv_eq_ediv_of_nonneg h0]
   generalize x.bk / c 13 = z at *
   unfold wrap64
   omega
  go_enter Tryz.func31, Tryz.ntmps31
  go_upto_region 1 with (fail)
  generalize (w.alloc (.cells (cellsSt x) 32)).alloc (.cells (cellsOf c) 30) = Wd at *
  have zv := cel T0.out.1 2
  go_wp2_with fail
  refine (HBL.out Wd T0.out.2.2).mono ?_
  rintro e w1 ⟨bv, rfl, ho, hb⟩
  have T1 := Lib.hid (T0.out.next hb)
  have O1 : Hid (w1.ownsRow (w.heap.size + 2) 23 1 bv x.vn (numsOf V)) := Lib.hid (ownsR_base ho (by have := T0.out.2.1.lt; omega))
  clear ho hb zv T0 HBL
  have zbk := cel T1.out.1 0
  have zep := cel T1.out.1 1
  have y13 := cel T1.out.2.1 13
  go_wp2_with fail
  go_quiet (fail)
  go_wp2_with fail
  go_ret
  exact ⟨rfl, below_drewN T1.out.2.2 _⟩
 ·have d0 : decide (0 ≤ x.bk) = false := decide_eq_false h0
  have hrf : r = false := by rw [HRB.out]; exact decide_eq_false (by omega)
  subst hrf
  clear h0
  go_enter Tryz.func31, Tryz.ntmps31
  go_upto_region 1 with (fail)
  generalize (w.alloc (.cells (cellsSt x) 32)).alloc (.cells (cellsOf c) 30) = Wd at *
  have zv := cel T0.out.1 2
  go_wp2_with fail
  refine (HBL.out Wd T0.out.2.2).mono ?_
  rintro e w1 ⟨bv, rfl, ho, hb⟩
  have T1 := Lib.hid (T0.out.next hb)
  have O1 : Hid (w1.ownsRow (w.heap.size + 2) 23 1 bv x.vn (numsOf V)) := Lib.hid (ownsR_base ho (by have := T0.out.2.1.lt; omega))
  clear ho hb zv T0 HBL
  have zbk := cel T1.out.1 0
  have zep := cel T1.out.1 1
  have y13 := cel T1.out.2.1 13
  go_wp2_with fail
  go_quiet (fail)
  go_wp2_with fail
  go_ret
  exact ⟨rfl, below_drewN T1.out.2.2 _⟩
end
end
section
open Go Go.RowKit Go.Deep
set_option maxRecDepth 100000
theorem hld_any {x : Sx} {c : Nat → Int} {V : List Val} {pd F W : List Int} (k : Nat) (hk : k < 12) (w : World) (h : AuAt w x c V pd F W) (hf : fewS x V = true) : CallB 31 #[.agg (cellsSt x), .agg (cellsOf c), .int .i64 ((k : Int) + 1)] w (.bool (ruleB c (anOf x V pd F W) k)) := by
 have : k = 0 ∨ k = 1 ∨ k = 2 ∨ k = 3 ∨ k = 4 ∨ k = 5 ∨ k = 6 ∨ k = 7 ∨ k = 8 ∨ k = 9 ∨ k = 10 ∨ k = 11 := by omega
 rcases this with rfl | rfl | rfl | rfl | rfl | rfl | rfl | rfl | rfl | rfl | rfl | rfl
 ·exact hld0_any h hf
 ·exact hld1_any h hf
 ·exact hld2_any h hf
 ·exact hld3_any h hf
 ·exact hld4_any h hf
 ·exact hld5_any h hf
 ·exact hld6_any h hf
 ·exact hld7_any h hf
 ·exact hld8_any h hf
 ·exact hld9_any h hf
 ·exact hld10_any h hf
 ·exact hld11_any h hf
set_option maxHeartbeats 3200000 in
theorem rAll_any {x : Sx} {c : Nat → Int} {V : List Val} {pd F W : List Int} (w : World) (h : AuAt w x c V pd F W) (hf : fewS x V = true) : Calls Tryz.prog 15 #[.agg (cellsSt x), .agg (cellsOf c)] w fun e w' => ∃ v, e = .returned v ∧ OwnI w' w.heap.size v (violK c (anOf x V pd F W) 12) ∧ Below w.heap.size w w' := by
 have T0 := Lib.hid (RCx.new w x c)
 have HH := Lib.hid (And.intro h hf)
 generalize hs : anOf x V pd F W = s at *
 have HS := Lib.hid hs
 obtain ⟨i8, hi8, hz8, hs8, hb8⟩ := int_app
 clear h hf hs
 go_enter Tryz.func15, Tryz.ntmps15
 go_upto_region 1 with (fail)
 generalize (w.alloc (.cells (cellsSt x) 32)).alloc (.cells (cellsOf c) 30) = Wd at *
 go_wp2_with fail
 go_loopw [5, 6] (fun s5 s6 wr => ∃ k : Nat, k ≤ 12 ∧ s6 = .int .i64 ((k : Int) + 1) ∧ Hid (OwnI wr (w.heap.size + 2) s5 (violK c s k)) ∧ Hid (RCx w wr x c)) (fun _ s6 _ => 13 - (intOf s6).toNat)
 case atStart => exact ⟨0, by omega, rfl, Lib.hid (World.ownsRow_nil _ _ _ _), T0⟩
 case round =>
  obtain ⟨k, hk, rfl, HV, T⟩ := hrel
  by_cases h12 : k < 12
  ·have d12 : decide ((k : Int) + 1 ≤ 12) = true := decide_eq_true (by omega)
   have d11 : decide ((k : Int) ≤ 11) = true := decide_eq_true (by omega)
   have HR : Hid (∀ W', Below w.heap.size w W' → CallB 31 #[.agg (cellsSt x), .agg (cellsOf c), .int .i64 ((k : Int) + 1)] W' (.bool (ruleB c s k))) := Lib.hid fun W' hb => by
    rw [← HS.out]
    exact hld_any k h12 W' (HH.out.1.below hb) HH.out.2
   go_wp2_with (first | (refine wlr 32 w.heap.size T.out.1 Tryz.underlying32 infoSt ?_) | (refine wlr 30 (w.heap.size + 1) T.out.2.1 Tryz.underlying30 infoCg ?_))
   refine (HR.out wr T.out.2.2).mono ?_
   rintro e w3 ⟨rfl, hb⟩
   have T3 := Lib.hid (T.out.next hb)
   have V3 := Lib.hid (ownsR_below HV.out hb)
   clear hb HR T HV
   cases hr : ruleB c s k with
   | true =>
    have HV2 : Hid (violK c s (k + 1) = violK c s k) := Lib.hid (viol_yes hr)
    clear hr
    go_wp2_with fail
    go_roundw
    case rel => exact ⟨k + 1, by omega, by go_num, Lib.hid (by rw [HV2.out]; exact V3.out), T3⟩
    case measure => simp [intOf]; omega
   | false =>
    have HV2 : Hid (violK c s (k + 1) = violK c s k ++ [(k : Int) + 1]) := Lib.hid (viol_no hr)
    have HLN : Hid ((violK c s k).length ≤ 12) := Lib.hid (Nat.le_trans (viol_len c s k) (by omega))
    clear hr
    generalize violK c s k = L at *
    obtain ⟨m, hmm⟩ := named (L.length)
    have V4 : Hid (w3.ownsRow (w.heap.size + 2) 3 1 u5 m (L.map (Value.int .i64))) := Lib.hid (by rw [← hmm]; exact V3.out)
    rw [hmm] at HLN
    have HMM := Lib.hid hmm
    clear hmm V3
    go_wp2_with (at_builtin; refine wpList_append_src _ rfl _ _ 24 rfl (w.heap.size + 2) 3 i8 _ 1 8 Tryz.underlying24 hi8 hz8 hs8 hb8 rfl Nat.one_pos u5 m (L.map (Value.int .i64)) rfl (V4.out.alloc _) (some ⟨w3.heap.size, 0, none⟩) 1 1 [.int .i64 ((k : Int) + 1)] rfl rfl (fun _ => ⟨_, rfl, cell_one_new w3 _ _⟩) (by simp [Value.oneCell']) (by have := HLN.out; unfold maxLen; omega) (by have := HLN.out; omega) (by have := T3.out.2.1.lt; simp; omega) ?_; intro v1 w4 ho hg hv1)
    have HZ : Hid (OwnI w4 (w.heap.size + 2) v1 (violK c s (k + 1)) ∧ RCx w w4 x c) := Lib.hid (by
     have hlt := T3.out.2.1.lt
     have hsz := T3.out.2.2.size
     have hge : ∀ q, u5.ownBlock = some q → w.heap.size + 2 ≤ q := fun q hq => by
      rcases V4.out.2 with ⟨h1, _⟩ | ⟨g, cp', cur, h1, h2, _⟩
      ·rw [h1] at hq; cases hq
      ·rw [h1] at hq; simp [Value.ownBlock] at hq; omega
     have hT4 := T3.out.next ((Below.refl _ w3).alloc (Nat.le_refl _) (.cells #[.int .i64 ((k : Int) + 1)] 3))
     refine ⟨?_, hT4.1.grown hg (fun e => ?_), hT4.2.1.grown hg (fun e => ?_), hT4.2.2.grown hg hT4.2.2.size (fun q hq => by have := hge q hq; omega)⟩
     ·unfold OwnI
      rw [HV2.out, List.length_append, HMM.out, List.map_append]
      exact ho
     ·have := hge _ e.symm; omega
     ·have := hge _ e.symm; omega)
    clear ho hg hv1 V4 T3
    go_wp2_with fail
    go_roundw
    case rel => exact ⟨k + 1, by omega, by go_num, Lib.hid HZ.out.1, Lib.hid HZ.out.2⟩
    case measure => simp [intOf]; omega
  ·obtain rfl : k = 12 := by omega
   go_wp2_with fail
   go_ret
   exact ⟨_, rfl, ownsR_base HV.out (by omega), T.out.2.2⟩
end
end Go.Proofs.YtobgbcdgffgdhaaGreat
