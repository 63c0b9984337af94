/- Part 12 of 29: Exa Rul Aud. -/
import Derived.Test.YtobgbcdgffgdhaaGreatZu09
import Derived.Test.YtobgbcdgffgdhaaGreatZu11
namespace Go.Proofs.YtobgbcdgffgdhaaGreat
set_option linter.unusedVariables false
set_option linter.unusedSimpArgs false
section
open Go Go.RowKit Go.Deep
set_option maxRecDepth 100000
def cntF (L : List Int) (k : Nat) (x : Int) : Int := ((L.take k).count x : Nat)
theorem cntF_zero (L : List Int) (x : Int) : cntF L 0 x = 0 := by simp [cntF]
theorem cntF_up {L : List Int} {k : Nat} {y : Int} (h : L[k]? = some y) : ∀ x, upd (cntF L k) y (cntF L k y + 1) x = cntF L (k + 1) x := fun x => by
 unfold upd cntF
 rw [List.take_add_one, h]
 simp only [Option.toList, List.count_append, List.count_cons, List.count_nil, beq_iff_eq]
 by_cases e : x = y
 ·subst e; simp
 ·rw [if_neg e, if_neg (fun h => e h.symm)]; simp
theorem cntF_le (L : List Int) (k : Nat) (x : Int) : 0 ≤ cntF L k x ∧ cntF L k x ≤ k := by
 unfold cntF
 have h1 := List.count_le_length (a := x) (l := L.take k)
 rw [List.length_take] at h1
 omega
theorem CntAt.below {w w' : World} {m : Nat} {c : Int → Int} (h : CntAt w m c) (hb : Below w.heap.size w w') : CntAt w' m c := h.same (hb.block m h.lt)
theorem lenB {n : Nat} (h : n ≤ 4096) : (Lit.int .i64 (n : Int)).wf = true := by simp [Lit.wf, IntKind.min, IntKind.max, IntKind.signed, IntKind.bits]; omega
set_option maxHeartbeats 3200000 in
theorem exactly_means (S T : Nat → Prop) (qa : Option Addr) (nq cq : Nat) (L : List Int) (a : Option Addr) (n cp : Nat) (f : Value) (l : List Val) (p : Val → Bool) (w : World) (hq : IntsAt w T qa L) (hql : L.length = nq) (hqn : nq ≤ 10000) (hqf : ∀ x ∈ L, (Lit.int .i64 x).wf = true)
  (h : Lst w S a l) (hl : l.length = n) (hn : n ≤ 4096) (hm : Means w f l p) :
  CallB 104 #[.slice qa nq cq, .slice a n cp, f] w (.bool (exactB L l p)) := by
 have HQ := Lib.hid (And.intro hq (And.intro hql hqf))
 have HL := Lib.hid (And.intro h hl)
 have HME := Lib.hid hm
 obtain ⟨t, ht⟩ := named (l.countP p)
 have HTL : Hid (t ≤ n) := Lib.hid (by rw [← ht, ← hl]; exact List.countP_le_length)
 have HCN : Hid (∀ W, Below w.heap.size w W → CallB 113 #[.slice a n cp, f] W (.int .i64 ((t : Nat) : Int))) := Lib.hid fun W hb => by
  rw [← ht]
  exact count_means S a n cp f l p W (h.below hb) hl hn (hm.below hb)
 obtain ⟨r, hr⟩ := named (exactB L l p)
 have HE : Hid (r = (((List.range n).all fun i => !p (l.getD i val0) || decide (L.count (i : Int) = 1)) && decide (nq = t))) := Lib.hid (by rw [← hr, ← hl, ← hql, ← ht]; rfl)
 rw [hr]
 have hmm := @run_makeMap Tryz.prog
 obtain ⟨F, caps, rfl, hen, hcall⟩ := hm
 have HC := Lib.hid hcall
 have HM0 : Hid (CntAt (w.alloc (.map #[] 0)) w.heap.size (cntF L 0)) := Lib.hid ((cntAt_made w).congr fun q => (cntF_zero L q).symm)
 have B0 : Hid (Below w.heap.size w (w.alloc (.map #[] 0))) := Lib.hid ((Below.refl _ _).alloc (Nat.le_refl _) _)
 obtain ⟨m, hmz⟩ := named (w.heap.size)
 have HMZ := Lib.hid hmz
 clear hq hql hqf h hl hcall hr ht
 go_enter Tryz.func104, Tryz.ntmps104
 go_wp2_with fail
 rw [hmz] at HM0
 generalize w.alloc (.map #[] 0) = W0 at *
 clear hmz hmm
 go_loopw [15] (fun s15 wr => ∃ k : Nat, k ≤ nq ∧ s15 = .int .i64 k ∧ Hid (CntAt wr m (cntF L k)) ∧ Hid (Below w.heap.size w wr)) (fun s15 _ => nq - (intOf s15).toNat)
 case atStart => exact ⟨0, by omega, rfl, HM0, B0⟩
 case round =>
  obtain ⟨k, hk, rfl, HM, BR⟩ := hrel
  by_cases hlt : k < nq
  ·obtain ⟨y, hy⟩ : ∃ y, L[k]? = some y := ⟨_, List.getElem?_eq_getElem (by rw [HQ.out.2.1]; exact hlt)⟩
   obtain ⟨b, off, rfl, hnb, hbl, hc⟩ := HQ.out.1 (by rw [HQ.out.2.1]; omega)
   have hcell : wr.cell? ⟨b, off + k, none⟩ = some (.int .i64 y) := by
    rw [BR.out.cell (p := ⟨b, off + k, none⟩) hbl, hc k (by rw [HQ.out.2.1]; exact hlt), List.getD_eq_getElem?_getD, hy]
    rfl
   have HW : Hid ((Lit.int .i64 y).wf = true) := Lib.hid (HQ.out.2.2 y (List.mem_of_getElem? hy))
   have hlook := HM.out.lookup Tryz.underlying3 Tryz.underlying144 (zero_int wr) HW.out
   obtain ⟨q0, q1⟩ := cntF_le L k y
   have HU := Lib.hid (cntF_up hy)
   have HG := Lib.hid HM.out
   obtain ⟨q, hq⟩ := named (cntF L k y)
   rw [hq] at hlook q0 q1 HU
   clear hy hc hnb hbl HM hq
   go_wp2_with (first | (refine wpList_count rfl _ _ _ rfl HG.out Tryz.underlying3 Tryz.underlying144 y (q + 1) rfl rfl rfl HW.out ?_; intro w1 hc1 hg1))
   have HZ : Hid (CntAt w1 m (cntF L (k + 1)) ∧ Below w.heap.size w w1) := Lib.hid ⟨hc1.congr HU.out, BR.out.grown hg1 BR.out.size (fun j hj => by injection hj with hj; rw [← hj, ← HMZ.out]; exact Nat.le_refl _)⟩
   clear hc1 hg1 hlook HG BR hcell
   go_wp2_with fail
   go_roundw
   case rel => exact ⟨k + 1, by omega, by go_num, Lib.hid HZ.out.1, Lib.hid HZ.out.2⟩
   case measure => simp [intOf]; omega
  ·obtain rfl : k = nq := by omega
   have HM1 : Hid (CntAt wr m fun x => ((L.count x : Nat) : Int)) := Lib.hid (HM.out.congr fun x => by unfold cntF; rw [List.take_of_length_le (by rw [HQ.out.2.1]; exact Nat.le_refl _)])
   clear hlt HM
   have hlt : ¬ k < k := by omega
   obtain ⟨V, hV⟩ : ∃ V, V = wr := ⟨_, rfl⟩
   subst hV
   have HK : Hid (∀ i, L.count i ≤ 10000) := Lib.hid fun i => Nat.le_trans List.count_le_length (by rw [HQ.out.2.1]; exact hqn)
   go_wp2_with fail
   go_loopw [26] (fun s26 wr => ∃ j : Nat, j ≤ n ∧ s26 = .int .i64 j ∧ Hid ((List.range j).all (fun i => !p (l.getD i val0) || decide (L.count (i : Int) = 1)) = true) ∧ Hid (CntAt wr m fun x => ((L.count x : Nat) : Int)) ∧ Hid (Below w.heap.size w wr)) (fun s26 _ => n - (intOf s26).toNat)
   case atStart => exact ⟨0, by omega, rfl, Lib.hid rfl, HM1, BR⟩
   case round =>
    obtain ⟨j, hj, rfl, HA, HM, BR⟩ := hrel
    by_cases hlt2 : j < n
    ·obtain ⟨v, hv⟩ : ∃ v, l[j]? = some v := ⟨_, List.getElem?_eq_getElem (by rw [HL.out.2]; exact hlt2)⟩
     obtain ⟨b, off, rfl, hr⟩ := (HL.out.1.below BR.out).at hv
     have HR := Lib.hid hr
     have HVM : Hid (v ∈ l) := Lib.hid (List.mem_of_getElem? hv)
     have HGD : Hid (l.getD j val0 = v) := Lib.hid (by rw [List.getD_eq_getElem?_getD, hv]; rfl)
     have B1 : Hid (Below w.heap.size w (wr.alloc (.cells (cellsV v) 68))) := Lib.hid (BR.out.alloc BR.out.size _)
     have M1 := Lib.hid (HM.out.alloc (.cells (cellsV v) 68))
     have N1 : Hid (Blk (wr.alloc (.cells (cellsV v) 68)) wr.heap.size 68 (cellsV v)) := Lib.hid (Blk.new wr _ _)
     clear hr hv BR HM
     go_upto_region 10 with (first | (refine wpList_load_val rfl 68 _ rfl b (off + j * 7) rfl v _ HR.out Tryz.underlying68 rfl infoV ?_) | (refine wsr wr.heap.size (cellsV v) 68 (heap_alloc_new wr _) infoV (cellsV_one _) ?_; rw [World.setRow_alloc_new]))
     try simp only [Act.put]
     clear HR
     generalize wr.alloc (.cells (cellsV v) 68) = W at *
     generalize wr.heap.size = g at *
     go_wp2_with (first | (refine wlr 68 g N1.out Tryz.underlying68 infoV ?_))
     refine (HC.out W v B1.out HVM.out).mono ?_
     rintro e w1 ⟨rfl, hb⟩
     have B2 : Hid (Below w.heap.size w w1) := Lib.hid (B1.out.trans (hb.mono B1.out.size))
     have M2 := Lib.hid (M1.out.below hb)
     clear hb B1 N1 HVM M1
     cases hp : p v with
     | true =>
      have hlook := M2.out.lookup Tryz.underlying3 Tryz.underlying144 (zero_int w1) (lenB (n := j) (by omega))
      have hk9 := HK.out (j : Int)
      obtain ⟨q, hq⟩ := named (L.count (j : Int))
      rw [hq] at hlook hk9
      by_cases h1 : q = 1
      ·have HA2 : Hid ((List.range (j + 1)).all (fun i => !p (l.getD i val0) || decide (L.count (i : Int) = 1)) = true) := Lib.hid (by
        rw [List.range_succ, List.all_append, HA.out]
        simp [hq, h1])
       have d : (((q : Nat) : Int) != 1) = false := by rw [h1]; rfl
       clear h1 hq hp hk9
       go_wp2_with fail
       go_roundw
       case rel => exact ⟨j + 1, by omega, by go_num, HA2, M2, B2⟩
       case measure => simp [intOf]; omega
      ·have hrf : r = false := by
        rw [HE.out]
        have : ((List.range n).all fun i => !p (l.getD i val0) || decide (L.count (i : Int) = 1)) = false := by
         rw [Bool.eq_false_iff]
         intro hall
         have h3 := List.all_eq_true.1 hall j (List.mem_range.2 hlt2)
         rw [HGD.out, hp, hq] at h3
         simp [h1] at h3
        rw [this]
        rfl
       subst hrf
       have d : (((q : Nat) : Int) != 1) = true := by simp; omega
       clear h1 hq hp hk9
       go_wp2_with fail
       go_ret
       exact ⟨rfl, B2.out⟩
     | false =>
      have HA2 : Hid ((List.range (j + 1)).all (fun i => !p (l.getD i val0) || decide (L.count (i : Int) = 1)) = true) := Lib.hid (by
       rw [List.range_succ, List.all_append, HA.out]
       simp only [List.all_cons, List.all_nil, HGD.out, hp]
       rfl)
      clear hp
      go_wp2_with fail
      go_roundw
      case rel => exact ⟨j + 1, by omega, by go_num, HA2, M2, B2⟩
      case measure => simp [intOf]; omega
    ·obtain rfl : j = n := by omega
     have d : ((k : Int) == (t : Int)) = r := by
      rw [HE.out, HA.out, Bool.true_and, Bool.eq_iff_iff, beq_iff_eq, decide_eq_true_eq]
      omega
     have d2 : (k == t) = r := by
      rw [← d, Bool.eq_iff_iff, beq_iff_eq, beq_iff_eq]
      omega
     have HX := Lib.hid (HCN.out wr BR.out)
     clear hlt2 HA HM
     have hlt2 : ¬ j < j := by omega
     go_wp2_with fail
     refine HX.out.mono ?_
     rintro e w1 ⟨rfl, hb⟩
     have B2 : Hid (Below w.heap.size w w1) := Lib.hid (BR.out.trans (hb.mono BR.out.size))
     clear hb HX BR
     go_wp2_with fail
     go_ret
     exact ⟨rfl, B2.out⟩
end
section
open Go Go.RowKit Go.Deep
set_option maxRecDepth 100000
structure AuAt (w : World) (x : Sx) (c : Nat → Int) (V : List Val) (pd F W : List Int) : Prop where
 sx : SxAt w (fun _ => False) x V pd F W
 vl : V.length ≤ 4096
 pl : pd.length ≤ 10000
 fl : F.length ≤ 5000
 wl : W.length ≤ 5000
 wd : ∀ v ∈ V, -4611686018427387904 ≤ v.wd ∧ v.wd ≤ 4611686018427387904
 c10 : 0 ≤ c 10 ∧ c 10 ≤ 1048576
 c13 : 1 ≤ c 13 ∧ c 13 ≤ 4096
 c4 : c 4 ≤ 1152921504606846976
theorem AuAt.below {w w' : World} {x : Sx} {c : Nat → Int} {V : List Val} {pd F W : List Int} (h : AuAt w x c V pd F W) (hb : Below w.heap.size w w') : AuAt w' x c V pd F W := { h with sx := h.sx.below hb }
def SC (w W : World) (x : Sx) (c : Nat → Int) : Prop := Blk W w.heap.size 28 (cellsSx x) ∧ Blk W (w.heap.size + 1) 30 (cellsOf c) ∧ Below w.heap.size w W
theorem sc_second (w : World) (A : Obj) (cs : Array Value) (t : TypeId) : Blk ((w.alloc A).alloc (.cells cs t)) (w.heap.size + 1) t cs := by
 have := Blk.new (w.alloc A) t cs
 simpa using this
theorem SC.new (w : World) (x : Sx) (c : Nat → Int) : SC w ((w.alloc (.cells (cellsSx x) 28)).alloc (.cells (cellsOf c) 30)) x c := ⟨(Blk.new w _ _).alloc _, sc_second w _ _ _, ((Below.refl _ _).alloc (Nat.le_refl _) _).alloc (by simp) _⟩
theorem SC.next {w W W' : World} {x : Sx} {c : Nat → Int} (h : SC w W x c) (hb : Below W.heap.size W W') : SC w W' x c := ⟨h.1.below hb h.1.lt, h.2.1.below hb h.2.1.lt, h.2.2.trans (hb.mono h.2.2.size)⟩
theorem run_max5 {P : Program} (w : World) (ts : Array TypeId) (t : TypeId) (a b c d e : Int) : (Builtin.max_ ts t #[.int .i64 a, .int .i64 b, .int .i64 c, .int .i64 d, .int .i64 e]).run P w = .ok (.int .i64 (max (max (max (max a b) c) d) e)) w := by
 have e2 : ∀ x y : Int, (if y > x then y else x) = max x y := fun x y => by
  rw [Int.max_def]
  split <;> split <;> omega
 simp [Builtin.max_, Builtin.max2, e2]
theorem means_fn (w : World) (F : Nat) (l : List Val) (p : Val → Bool) (he : ∀ args w, (callFunc F args).run Tryz.prog w = .ok (.enter F args) w) (h : ∀ v w1, Calls Tryz.prog F #[.agg (cellsV v)] w1 fun o w2 => o = .returned (.bool (p v)) ∧ Below w1.heap.size w1 w2) : Means w (.func (.func F) #[] #[]) l p :=
 ⟨F, #[], rfl, he, fun w1 v _ _ => h v w1⟩
section
variable {x : Sx} {c : Nat → Int} {V : List Val} {pd F W : List Int} {w : World}
set_option maxHeartbeats 3200000 in
theorem rul0_any (h : AuAt w x c V pd F W) : CallB 53 #[.agg (cellsSx x), .agg (cellsOf c)] w (.bool (ruleB c (anOf x V pd F W) 0)) := by
 have T := Lib.hid (SC.new w x c)
 have HH := Lib.hid h
 obtain ⟨r, hr⟩ := named (ruleB c (anOf x V pd F W) 0)
 rw [hr]
 have d : decide ((x.vn : Int) ≤ c 0) = r := by rw [← hr, ← h.sx.vn]; rfl
 clear h hr
 go_enter Tryz.func53, Tryz.ntmps53
 go_upto_region 1 with (fail)
 generalize (w.alloc (.cells (cellsSx x) 28)).alloc (.cells (cellsOf c) 30) = Wd at *
 have zv := cel T.out.1 2
 have y0 := cel T.out.2.1 0
 go_wp2_with fail
 go_ret
 exact ⟨rfl, T.out.2.2⟩
set_option maxHeartbeats 3200000 in
theorem rul1_any (h : AuAt w x c V pd F W) : CallB 54 #[.agg (cellsSx x), .agg (cellsOf c)] w (.bool (ruleB c (anOf x V pd F W) 1)) := by
 have T := Lib.hid (SC.new w x c)
 have HH := Lib.hid h
 obtain ⟨r, hr⟩ := named (ruleB c (anOf x V pd F W) 1)
 rw [hr]
 have HT : Hid (∀ W1, Below w.heap.size w W1 → CallB 99 #[.slice x.va x.vn x.vc, .func (.func 100) #[] #[]] W1 (.tuple #[.int .u64 (totQ V fun _ => true), .bool (totOk V fun _ => true)])) := Lib.hid fun W1 hb => total_means _ _ _ _ _ V _ W1 (h.sx.vl.below hb) h.sx.vn (by have := h.vl; have := h.sx.vn; omega) h.sx.vf (means_fn W1 _ V _ Tryz.call100 anyOne_any)
 have e1 : (totOk V fun _ => true) = decide (totalOf V ≤ 18446744073709551615) := by unfold totOk; rw [filter_true]
 have hn := total_nonneg h.sx.vf
 have hP := h.sx.nums.P
 have hBn := h.sx.nums.B
 have hD := h.sx.nums.D
 unfold K64 at hP hBn hD
 have HRB : Hid (r = decide (totalOf V + x.P + x.B = x.D)) := Lib.hid hr.symm
 have HN := Lib.hid (And.intro hn (And.intro hP (And.intro hBn hD)))
 by_cases h1 : totalOf V ≤ 18446744073709551615
 ·have e2 : (totQ V fun _ => true) = totalOf V := by unfold totQ; rw [filter_true, if_pos h1]
  have e3 : (totOk V fun _ => true) = true := by rw [e1]; exact decide_eq_true h1
  rw [e2, e3] at HT
  obtain ⟨b, hb⟩ := named (totalOf V)
  rw [hb] at HT HN HRB h1
  have HA : Hid (∀ (g : Nat) (W1 : World), Blk W1 g 23 #[.int .u64 b, .int .u64 x.P, .int .u64 x.B] → CallW 101 #[.slice (some ⟨g, 0, none⟩) 3 3] W1 (.tuple #[.int .u64 (addQ [b, x.P, x.B] 3), .bool (addOk [b, x.P, x.B] 3)])) := Lib.hid fun g W1 hb => add_row g 0 3 3 [b, x.P, x.B] W1 (by omega) (fun i hi => by
    have hc := hb.cell i
    have : i = 0 ∨ i = 1 ∨ i = 2 := by omega
    rw [Nat.zero_add]
    rcases this with rfl | rfl | rfl <;> exact hc) (fun i => by
    have := HN.out
    match i with
    | 0 => exact ⟨this.1, h1⟩
    | 1 => exact this.2.1
    | 2 => exact this.2.2.1
    | i + 3 => exact ⟨by simp, by simp⟩)
  have e4 : sumTo [b, x.P, x.B] 3 = b + x.P + x.B := by simp [sumTo]
  have e5 : addOk [b, x.P, x.B] 3 = decide (b + x.P + x.B ≤ 18446744073709551615) := by unfold addOk; rw [e4]
  by_cases h2 : b + x.P + x.B ≤ 18446744073709551615
  ·have e6 : addQ [b, x.P, x.B] 3 = b + x.P + x.B := by unfold addQ; rw [e4, if_pos h2]
   have e7 : addOk [b, x.P, x.B] 3 = true := by rw [e5]; exact decide_eq_true h2
   rw [e6, e7] at HA
   have d : (b + x.P + x.B == x.D) = r := by rw [HRB.out, Bool.eq_iff_iff]; simp
   generalize b + x.P + x.B = sm at *
   clear e1 hn hP hBn hD h h1 e2 e3 hb e4 e5 h2 e6 e7 hr
   go_enter Tryz.func54, Tryz.ntmps54
   go_upto_region 1 with (fail)
   generalize (w.alloc (.cells (cellsSx x) 28)).alloc (.cells (cellsOf c) 30) = Wd at *
   have zv := cel T.out.1 2
   have zD := cel T.out.1 3
   have zP := cel T.out.1 4
   have zB := cel T.out.1 5
   go_wp2_with fail
   refine (HT.out Wd T.out.2.2).mono ?_
   rintro e w1 ⟨rfl, hb⟩
   have T1 := Lib.hid (T.out.next hb)
   clear hb zv zD zP zB T
   have zD := cel T1.out.1 3
   have zP := cel T1.out.1 4
   have zB := cel T1.out.1 5
   have N1 : Hid (Blk (w1.alloc (.cells #[.int .u64 b, .int .u64 x.P, .int .u64 x.B] 23)) w1.heap.size 23 #[.int .u64 b, .int .u64 x.P, .int .u64 x.B]) := Lib.hid (Blk.new w1 _ _)
   have T2 := Lib.hid (T1.out.next ((Below.refl _ w1).alloc (Nat.le_refl _) (.cells #[.int .u64 b, .int .u64 x.P, .int .u64 x.B] 23)))
   go_wp2_with fail
   generalize w1.alloc (.cells #[.int .u64 b, .int .u64 x.P, .int .u64 x.B] 23) = w2 at *
   refine (HA.out _ _ N1.out).mono ?_
   rintro e w3 ⟨rfl, rfl⟩
   clear zD zP zB T1 N1
   have zD := cel T2.out.1 3
   go_wp2_with fail
   go_ret
   exact ⟨rfl, T2.out.2.2⟩
  ·have e7 : addOk [b, x.P, x.B] 3 = false := by rw [e5]; exact decide_eq_false h2
   rw [e7] at HA
   have hrf : r = false := by rw [HRB.out]; exact decide_eq_false (by have := HN.out; omega)
   subst hrf
   generalize addQ [b, x.P, x.B] 3 = sm at *
   clear e1 hn hP hBn hD h h1 e2 e3 hb e4 e5 h2 e7 hr
   go_enter Tryz.func54, Tryz.ntmps54
   go_upto_region 1 with (fail)
   generalize (w.alloc (.cells (cellsSx x) 28)).alloc (.cells (cellsOf c) 30) = Wd at *
   have zv := cel T.out.1 2
   have zD := cel T.out.1 3
   have zP := cel T.out.1 4
   have zB := cel T.out.1 5
   go_wp2_with fail
   refine (HT.out Wd T.out.2.2).mono ?_
   rintro e w1 ⟨rfl, hb⟩
   have T1 := Lib.hid (T.out.next hb)
   clear hb zv zD zP zB T
   have zD := cel T1.out.1 3
   have zP := cel T1.out.1 4
   have zB := cel T1.out.1 5
   have N1 : Hid (Blk (w1.alloc (.cells #[.int .u64 b, .int .u64 x.P, .int .u64 x.B] 23)) w1.heap.size 23 #[.int .u64 b, .int .u64 x.P, .int .u64 x.B]) := Lib.hid (Blk.new w1 _ _)
   have T2 := Lib.hid (T1.out.next ((Below.refl _ w1).alloc (Nat.le_refl _) (.cells #[.int .u64 b, .int .u64 x.P, .int .u64 x.B] 23)))
   go_wp2_with fail
   generalize w1.alloc (.cells #[.int .u64 b, .int .u64 x.P, .int .u64 x.B] 23) = w2 at *
   refine (HA.out _ _ N1.out).mono ?_
   rintro e w3 ⟨rfl, rfl⟩
   clear zD zP zB T1 N1
   go_wp2_with fail
   go_ret
   exact ⟨rfl, T2.out.2.2⟩
 ·have e3 : (totOk V fun _ => true) = false := by rw [e1]; exact decide_eq_false h1
  rw [e3] at HT
  have hrf : r = false := by rw [HRB.out]; exact decide_eq_false (by omega)
  subst hrf
  obtain ⟨b, hb⟩ : ∃ b, (totQ V fun _ => true) = b := ⟨_, rfl⟩
  have hb0 : 0 ≤ b ∧ b ≤ 18446744073709551615 := by rw [← hb]; unfold totQ; rw [filter_true, if_neg h1]; omega
  rw [hb] at HT
  have HA : Hid (∀ (g : Nat) (W1 : World), Blk W1 g 23 #[.int .u64 b, .int .u64 x.P, .int .u64 x.B] → CallW 101 #[.slice (some ⟨g, 0, none⟩) 3 3] W1 (.tuple #[.int .u64 (addQ [b, x.P, x.B] 3), .bool (addOk [b, x.P, x.B] 3)])) := Lib.hid fun g W1 hb => add_row g 0 3 3 [b, x.P, x.B] W1 (by omega) (fun i hi => by
    have hc := hb.cell i
    have : i = 0 ∨ i = 1 ∨ i = 2 := by omega
    rw [Nat.zero_add]
    rcases this with rfl | rfl | rfl <;> exact hc) (fun i => by
    have := HN.out
    match i with
    | 0 => exact hb0
    | 1 => exact this.2.1
    | 2 => exact this.2.2.1
    | i + 3 => exact ⟨by simp, by simp⟩)
  generalize addQ [b, x.P, x.B] 3 = sm at *
  generalize addOk [b, x.P, x.B] 3 = so at *
  clear e1 hn hP hBn hD h h1 e3 hb hb0 hr
  go_enter Tryz.func54, Tryz.ntmps54
  go_upto_region 1 with (fail)
  generalize (w.alloc (.cells (cellsSx x) 28)).alloc (.cells (cellsOf c) 30) = Wd at *
  have zv := cel T.out.1 2
  have zD := cel T.out.1 3
  have zP := cel T.out.1 4
  have zB := cel T.out.1 5
  go_wp2_with fail
  refine (HT.out Wd T.out.2.2).mono ?_
  rintro e w1 ⟨rfl, hb⟩
  have T1 := Lib.hid (T.out.next hb)
  clear hb zv zD zP zB T
  have zD := cel T1.out.1 3
  have zP := cel T1.out.1 4
  have zB := cel T1.out.1 5
  have N1 : Hid (Blk (w1.alloc (.cells #[.int .u64 b, .int .u64 x.P, .int .u64 x.B] 23)) w1.heap.size 23 #[.int .u64 b, .int .u64 x.P, .int .u64 x.B]) := Lib.hid (Blk.new w1 _ _)
  have T2 := Lib.hid (T1.out.next ((Below.refl _ w1).alloc (Nat.le_refl _) (.cells #[.int .u64 b, .int .u64 x.P, .int .u64 x.B] 23)))
  go_wp2_with fail
  generalize w1.alloc (.cells #[.int .u64 b, .int .u64 x.P, .int .u64 x.B] 23) = w2 at *
  refine (HA.out _ _ N1.out).mono ?_
  rintro e w3 ⟨rfl, rfl⟩
  clear zD zP zB T1 N1
  go_wp2_with fail
  go_ret
  exact ⟨rfl, T2.out.2.2⟩
set_option maxHeartbeats 3200000 in
theorem rul2_any (h : AuAt w x c V pd F W) (hc4 : c 4 ≤ 1152921504606846976) : CallB 55 #[.agg (cellsSx x), .agg (cellsOf c)] w (.bool (ruleB c (anOf x V pd F W) 2)) := by
 have T := Lib.hid (SC.new w x c)
 have HH := Lib.hid h
 obtain ⟨r, hr⟩ := named (ruleB c (anOf x V pd F W) 2)
 rw [hr]
 have HT : Hid (∀ W1, Below w.heap.size w W1 → CallB 99 #[.slice x.va x.vn x.vc, .func (.func 100) #[] #[]] W1 (.tuple #[.int .u64 (totQ V (fun _ => true)), .bool (totOk V (fun _ => true))])) := Lib.hid fun W1 hb => total_means _ _ _ _ _ V _ W1 (h.sx.vl.below hb) h.sx.vn (by have := h.vl; have := h.sx.vn; omega) h.sx.vf (means_fn W1 _ V _ Tryz.call100 anyOne_any)
 by_cases h1 : totalOf V ≤ 18446744073709551615
 ·have e2 : totQ V (fun _ => true) = totalOf V := by unfold totQ; rw [filter_true, if_pos h1]
  have e3 : totOk V (fun _ => true) = true := by unfold totOk; rw [filter_true]; exact decide_eq_true h1
  rw [e2, e3] at HT
  obtain ⟨b, hb⟩ := named (totalOf V)
  rw [hb] at HT
  have d : decide (b ≤ c 4) = r := by rw [← hr, ← hb]; rfl
  clear h h1 e2 e3 hb hr
  go_enter Tryz.func55, Tryz.ntmps55
  go_upto_region 1 with (fail)
  generalize (w.alloc (.cells (cellsSx x) 28)).alloc (.cells (cellsOf c) 30) = Wd at *
  have zv := cel T.out.1 2
  have y4 := cel T.out.2.1 4
  go_wp2_with fail
  refine (HT.out Wd T.out.2.2).mono ?_
  rintro e w1 ⟨rfl, hb⟩
  have T1 := Lib.hid (T.out.next hb)
  clear hb T zv y4
  have y4 := cel T1.out.2.1 4
  go_wp2_with fail
  go_ret
  exact ⟨rfl, T1.out.2.2⟩
 ·have e3 : totOk V (fun _ => true) = false := by unfold totOk; rw [filter_true]; exact decide_eq_false h1
  rw [e3] at HT
  have hrf : r = false := by
   rw [← hr]; exact decide_eq_false (show ¬ totalOf V ≤ c 4 by have := hc4; omega)
  subst hrf
  generalize totQ V (fun _ => true) = b at *
  clear h h1 e3 hr
  go_enter Tryz.func55, Tryz.ntmps55
  go_upto_region 1 with (fail)
  generalize (w.alloc (.cells (cellsSx x) 28)).alloc (.cells (cellsOf c) 30) = Wd at *
  have zv := cel T.out.1 2
  have y4 := cel T.out.2.1 4
  go_wp2_with fail
  refine (HT.out Wd T.out.2.2).mono ?_
  rintro e w1 ⟨rfl, hb⟩
  have T1 := Lib.hid (T.out.next hb)
  clear hb T zv y4
  go_wp2_with fail
  go_ret
  exact ⟨rfl, T1.out.2.2⟩
set_option maxHeartbeats 3200000 in
theorem rul3_any (h : AuAt w x c V pd F W) : CallB 56 #[.agg (cellsSx x), .agg (cellsOf c)] w (.bool (ruleB c (anOf x V pd F W) 3)) := by
 have T := Lib.hid (SC.new w x c)
 have HH := Lib.hid h
 obtain ⟨r, hr⟩ := named (ruleB c (anOf x V pd F W) 3)
 rw [hr]
 have HT : Hid (∀ W1, Below w.heap.size w W1 → CallB 99 #[.slice x.va x.vn x.vc, .func (.func 102) #[] #[]] W1 (.tuple #[.int .u64 (totQ V (fun v => liveB v.st)), .bool (totOk V (fun v => liveB v.st))])) := Lib.hid fun W1 hb => total_means _ _ _ _ _ V _ W1 (h.sx.vl.below hb) h.sx.vn (by have := h.vl; have := h.sx.vn; omega) h.sx.vf (means_fn W1 _ V _ Tryz.call102 active1_any)
 by_cases h1 : activeOf V ≤ 18446744073709551615
 ·have e2 : totQ V (fun v => liveB v.st) = activeOf V := by unfold totQ; rw [total_live, if_pos h1]
  have e3 : totOk V (fun v => liveB v.st) = true := by unfold totOk; rw [total_live]; exact decide_eq_true h1
  rw [e2, e3] at HT
  obtain ⟨b, hb⟩ := named (activeOf V)
  rw [hb] at HT
  have d : (b == x.ac) = r := by
   rw [← hr, ← hb, Bool.eq_iff_iff, beq_iff_eq]
   show _ ↔ decide (activeOf V = x.ac) = true
   rw [decide_eq_true_eq]
  clear h h1 e2 e3 hb hr
  go_enter Tryz.func56, Tryz.ntmps56
  go_upto_region 1 with (fail)
  generalize (w.alloc (.cells (cellsSx x) 28)).alloc (.cells (cellsOf c) 30) = Wd at *
  have zv := cel T.out.1 2
  have zac := cel T.out.1 6
  go_wp2_with fail
  refine (HT.out Wd T.out.2.2).mono ?_
  rintro e w1 ⟨rfl, hb⟩
  have T1 := Lib.hid (T.out.next hb)
  clear hb T zv zac
  have zac := cel T1.out.1 6
  go_wp2_with fail
  go_ret
  exact ⟨rfl, T1.out.2.2⟩
 ·have e3 : totOk V (fun v => liveB v.st) = false := by unfold totOk; rw [total_live]; exact decide_eq_false h1
  rw [e3] at HT
  have hrf : r = false := by
   rw [← hr]; exact decide_eq_false (show ¬ activeOf V = x.ac by have := h.sx.nums.ac.2; omega)
  subst hrf
  generalize totQ V (fun v => liveB v.st) = b at *
  clear h h1 e3 hr
  go_enter Tryz.func56, Tryz.ntmps56
  go_upto_region 1 with (fail)
  generalize (w.alloc (.cells (cellsSx x) 28)).alloc (.cells (cellsOf c) 30) = Wd at *
  have zv := cel T.out.1 2
  have zac := cel T.out.1 6
  go_wp2_with fail
  refine (HT.out Wd T.out.2.2).mono ?_
  rintro e w1 ⟨rfl, hb⟩
  have T1 := Lib.hid (T.out.next hb)
  clear hb T zv zac
  go_wp2_with fail
  go_ret
  exact ⟨rfl, T1.out.2.2⟩
set_option maxHeartbeats 3200000 in
theorem rul4_any (h : AuAt w x c V pd F W) : CallB 57 #[.agg (cellsSx x), .agg (cellsOf c)] w (.bool (ruleB c (anOf x V pd F W) 4)) := by
 have T := Lib.hid (SC.new w x c)
 have HH := Lib.hid h
 obtain ⟨r, hr⟩ := named (ruleB c (anOf x V pd F W) 4)
 rw [hr]
 have HX : Hid (∀ W1, Below w.heap.size w W1 → CallB 104 #[.slice x.pa x.pn x.pc, .slice x.va x.vn x.vc, .func (.func 105) #[] #[]] W1 (.bool r)) := Lib.hid fun W1 hb => by
  rw [← hr]
  exact exactly_means _ _ _ _ _ pd _ _ _ _ V isP W1 (h.sx.pl.below hb) h.sx.pn (by have := h.pl; have := h.sx.pn; omega) h.sx.pf (h.sx.vl.below hb) h.sx.vn (by have := h.vl; have := h.sx.vn; omega) (means_fn W1 _ V _ Tryz.call105 pending1_any)
 clear h hr
 go_enter Tryz.func57, Tryz.ntmps57
 go_upto_region 1 with (fail)
 generalize (w.alloc (.cells (cellsSx x) 28)).alloc (.cells (cellsOf c) 30) = Wd at *
 have zv := cel T.out.1 2
 have zp := cel T.out.1 7
 go_wp2_with fail
 refine (HX.out Wd T.out.2.2).mono ?_
 rintro e w1 ⟨rfl, hb⟩
 have B1 : Hid (Below w.heap.size w w1) := Lib.hid (T.out.2.2.trans (hb.mono T.out.2.2.size))
 clear hb
 go_wp2_with fail
 go_ret
 exact ⟨rfl, B1.out⟩
set_option maxHeartbeats 3200000 in
theorem rul5_any (h : AuAt w x c V pd F W) : CallB 58 #[.agg (cellsSx x), .agg (cellsOf c)] w (.bool (ruleB c (anOf x V pd F W) 5)) := by
 have T := Lib.hid (SC.new w x c)
 have HH := Lib.hid h
 obtain ⟨r, hr⟩ := named (ruleB c (anOf x V pd F W) 5)
 rw [hr]
 have HX : Hid (∀ (v : Value) (W1 : World), Below w.heap.size w W1 → OwnI W1 0 v (F ++ W) → CallB 104 #[v, .slice x.va x.vn x.vc, .func (.func 107) #[] #[]] W1 (.bool r)) := Lib.hid fun v W1 hb ho => by
  obtain ⟨qa, qc, rfl, q1, q2, q3, q4⟩ := ints_of_owns (S := fun _ => False) ho fun _ _ h => h
  rw [← hr]
  exact exactly_means _ _ _ _ _ (F ++ W) _ _ _ _ V isE W1 q4 q1 (by have := h.fl; have := h.wl; rw [List.length_append]; omega) (fun y hy => (List.mem_append.1 hy).elim (h.sx.ff y) (h.sx.wf y)) (h.sx.vl.below hb) h.sx.vn (by have := h.vl; have := h.sx.vn; omega) (means_fn W1 _ V _ Tryz.call107 exits1_any)
 have HC : Hid (∀ (g : Nat) (W1 : World), Below w.heap.size w W1 → Blk W1 g 24 #[.slice x.fa x.fn x.fc, .slice x.wa x.wn x.wc] → Calls Tryz.prog 106 #[.slice (some ⟨g, 0, none⟩) 2 2] W1 fun e w' => ∃ v, e = .returned v ∧ OwnI w' W1.heap.size v (F ++ W) ∧ Below W1.heap.size W1 w') := Lib.hid fun g W1 hb hB => concat_two _ _ _ _ _ _ _ g F W W1 (h.sx.fl.below hb) (h.sx.wl.below hb) h.sx.fn h.sx.wn (by have := h.fl; have := h.sx.fn; omega) (by have := h.wl; have := h.sx.wn; omega) (hB.cell 0) (hB.cell 1)
 clear h hr
 go_enter Tryz.func58, Tryz.ntmps58
 go_upto_region 1 with (fail)
 generalize (w.alloc (.cells (cellsSx x) 28)).alloc (.cells (cellsOf c) 30) = Wd at *
 have zv := cel T.out.1 2
 have zf := cel T.out.1 8
 have zw := cel T.out.1 9
 have N1 : Hid (Blk (Wd.alloc (.cells #[.slice x.fa x.fn x.fc, .slice x.wa x.wn x.wc] 24)) Wd.heap.size 24 #[.slice x.fa x.fn x.fc, .slice x.wa x.wn x.wc]) := Lib.hid (Blk.new Wd _ _)
 have T1 := Lib.hid (T.out.next ((Below.refl _ Wd).alloc (Nat.le_refl _) (.cells #[.slice x.fa x.fn x.fc, .slice x.wa x.wn x.wc] 24)))
 go_wp2_with fail
 generalize Wd.alloc (.cells #[.slice x.fa x.fn x.fc, .slice x.wa x.wn x.wc] 24) = w2 at *
 refine (HC.out _ w2 T1.out.2.2 N1.out).mono ?_
 rintro e w3 ⟨v, rfl, ho, hb⟩
 have O3 := Lib.hid (ownsR_base (C := 0) ho (Nat.zero_le _))
 have T3 := Lib.hid (T1.out.next hb)
 clear ho hb zv zf zw T T1 N1
 have zv := cel T3.out.1 2
 go_wp2_with fail
 refine (HX.out v w3 T3.out.2.2 O3.out).mono ?_
 rintro e w1 ⟨rfl, hb⟩
 have B1 : Hid (Below w.heap.size w w1) := Lib.hid (T3.out.2.2.trans (hb.mono T3.out.2.2.size))
 clear hb
 go_wp2_with fail
 go_ret
 exact ⟨rfl, B1.out⟩
set_option maxHeartbeats 3200000 in
theorem rul6_any (h : AuAt w x c V pd F W) : CallB 59 #[.agg (cellsSx x), .agg (cellsOf c)] w (.bool (ruleB c (anOf x V pd F W) 6)) := by
 have T := Lib.hid (SC.new w x c)
 have HH := Lib.hid h
 obtain ⟨r, hr⟩ := named (ruleB c (anOf x V pd F W) 6)
 rw [hr]
 have HX : Hid (∀ W1, Below w.heap.size w W1 → Blk W1 (w.heap.size + 1) 30 (cellsOf c) → CallB 108 #[.slice x.va x.vn x.vc, .func (.func 109) #[] #[.pointer (some ⟨w.heap.size + 1, 0, none⟩)]] W1 (.bool r)) := Lib.hid fun W1 hb hB => by
  rw [← hr]
  exact each_means _ _ _ _ _ V (okE c) W1 (h.sx.vl.below hb) h.sx.vn (by have := h.vl; have := h.sx.vn; omega) ⟨_, #[.pointer (some ⟨w.heap.size + 1, 0, none⟩)], rfl, Tryz.call109, fun w1 v hb1 hv => epochs1_any v c _ w1 (hB.below hb1 hB.lt) (h.wd v hv).1 (h.wd v hv).2 h.c10.1 h.c10.2⟩
 have hmf : ∀ (a : Value) (w : World), (Instr.makeFunc (.func 109) #[] #[a]).run Tryz.prog w = .ok (.func (.func 109) #[] #[a]) w := fun a w => by first | rfl | kernel_rfl
 clear h hr
 go_enter Tryz.func59, Tryz.ntmps59
 go_upto_region 1 with (fail)
 generalize (w.alloc (.cells (cellsSx x) 28)).alloc (.cells (cellsOf c) 30) = Wd at *
 have zv := cel T.out.1 2
 go_wp2_with fail
 refine (HX.out Wd T.out.2.2 T.out.2.1).mono ?_
 rintro e w1 ⟨rfl, hb⟩
 have B1 : Hid (Below w.heap.size w w1) := Lib.hid (T.out.2.2.trans (hb.mono T.out.2.2.size))
 clear hb
 go_wp2_with fail
 go_ret
 exact ⟨rfl, B1.out⟩
set_option maxHeartbeats 3200000 in
theorem rul7_any (h : AuAt w x c V pd F W) : CallB 60 #[.agg (cellsSx x), .agg (cellsOf c)] w (.bool (ruleB c (anOf x V pd F W) 7)) := by
 have T := Lib.hid (SC.new w x c)
 have HH := Lib.hid h
 obtain ⟨r, hr⟩ := named (ruleB c (anOf x V pd F W) 7)
 rw [hr]
 have HX : Hid (∀ W1, Below w.heap.size w W1 → CallB 108 #[.slice x.va x.vn x.vc, .func (.func 111) #[] #[]] W1 (.bool r)) := Lib.hid fun W1 hb => by
  rw [← hr]
  exact each_means _ _ _ _ _ V okZ W1 (h.sx.vl.below hb) h.sx.vn (by have := h.vl; have := h.sx.vn; omega) (means_fn W1 _ V _ Tryz.call111 empty1_any)
 clear h hr
 go_enter Tryz.func60, Tryz.ntmps60
 go_upto_region 1 with (fail)
 generalize (w.alloc (.cells (cellsSx x) 28)).alloc (.cells (cellsOf c) 30) = Wd at *
 have zv := cel T.out.1 2
 go_wp2_with fail
 refine (HX.out Wd T.out.2.2).mono ?_
 rintro e w1 ⟨rfl, hb⟩
 have B1 : Hid (Below w.heap.size w w1) := Lib.hid (T.out.2.2.trans (hb.mono T.out.2.2.size))
 clear hb
 go_wp2_with fail
 go_ret
 exact ⟨rfl, B1.out⟩
set_option maxHeartbeats 3200000 in
theorem rul8_any (h : AuAt w x c V pd F W) : CallB 61 #[.agg (cellsSx x), .agg (cellsOf c)] w (.bool (ruleB c (anOf x V pd F W) 8)) := by
 have T := Lib.hid (SC.new w x c)
 have HH := Lib.hid h
 obtain ⟨r, hr⟩ := named (ruleB c (anOf x V pd F W) 8)
 rw [hr]
 obtain ⟨t, ht⟩ := named (V.countP isU)
 have HX : Hid (∀ W1, Below w.heap.size w W1 → CallB 113 #[.slice x.va x.vn x.vc, .func (.func 114) #[] #[]] W1 (.int .i64 ((t : Nat) : Int))) := Lib.hid fun W1 hb => by
  rw [← ht]
  exact count_means _ _ _ _ _ V isU W1 (h.sx.vl.below hb) h.sx.vn (by have := h.vl; have := h.sx.vn; omega) (means_fn W1 _ V _ Tryz.call114 unb1_any)
 have d : (x.un == (t : Int)) = r := by
  rw [← hr, ← ht, Bool.eq_iff_iff, beq_iff_eq]
  show _ ↔ decide (x.un = (V.countP isU : Nat)) = true
  rw [decide_eq_true_eq]
 clear h hr ht
 go_enter Tryz.func61, Tryz.ntmps61
 go_upto_region 1 with (fail)
 generalize (w.alloc (.cells (cellsSx x) 28)).alloc (.cells (cellsOf c) 30) = Wd at *
 refine wp_region_class (fun w' => SC w w' x c) (by kernel_rfl) (by kernel_rfl) (T.out.next (Below.refl _ _).drew) ?_
 iterate 1 (go_big_quiet_step ((intros; rfl)))
 refine qce _ ⟨w.heap.size, 14, none⟩ (.int .i64 x.un) (fun w' h => h.1.cell 14) ?_
 simp only [Act.put, List.setIfInBounds_toArray, List.set_cons_zero, List.set_cons_succ]
 iterate 1 (go_big_quiet_step ((intros; rfl)))
 refine qce _ ⟨w.heap.size, 2, none⟩ (.slice x.va x.vn x.vc) (fun w' h => h.1.cell 2) ?_
 simp only [Act.put, List.setIfInBounds_toArray, List.set_cons_zero, List.set_cons_succ]
 refine q_call (.int .i64 (t : Int)) #[.slice x.va x.vn x.vc, .func (.func 114) #[] #[]] (by kernel_rfl) (by kernel_rfl) Tryz.call113 (fun w' h => (HX.out w' h.2.2).mono fun e w'' ⟨he, hb⟩ => ⟨he, h.next hb⟩) ?_
 try simp only [Act.put, List.getElem_toArray, List.getElem_cons_zero, List.getElem_cons_succ, List.setIfInBounds_toArray, List.set_cons_zero, List.set_cons_succ, List.drop_succ_cons, List.drop_zero]
 iterate 2 (go_big_quiet_step ((intros; rfl)))
 refine wpQuiet_nil ?_
 intro w1 hw1
 have T1 := Lib.hid hw1
 clear hw1 T
 go_wp2_with fail
 go_ret
 exact ⟨rfl, T1.out.2.2⟩
set_option maxHeartbeats 3200000 in
theorem rul9_any (h : AuAt w x c V pd F W) : CallB 62 #[.agg (cellsSx x), .agg (cellsOf c)] w (.bool (ruleB c (anOf x V pd F W) 9)) := by
 have T := Lib.hid (SC.new w x c)
 have HH := Lib.hid h
 obtain ⟨r, hr⟩ := named (ruleB c (anOf x V pd F W) 9)
 rw [hr]
 have hp := h.sx.pn
 have hf := h.sx.fn
 have hw := h.sx.wn
 have b1 := h.pl
 have b2 := h.fl
 have b3 := h.wl
 have b4 := h.sx.nums.mn
 have b5 := h.sx.nums.tn
 obtain ⟨q, hq⟩ : ∃ q : Int, max (max (max (max (x.pn : Int) x.fn) x.wn) x.mn) x.tn = q := ⟨_, rfl⟩
 have hmx : ∀ (ts : Array TypeId) (t : TypeId) (w : World), (Builtin.max_ ts t #[.int .i64 (x.pn : Int), .int .i64 (x.fn : Int), .int .i64 (x.wn : Int), .int .i64 (x.mn : Int), .int .i64 (x.tn : Int)]).run Tryz.prog w = .ok (.int .i64 q) w := fun ts t w => by rw [run_max5, hq]
 have d : decide (q ≤ c 1) = r := by
  rw [← hr, Bool.eq_iff_iff, decide_eq_true_eq]
  show _ ↔ decide ((pd.length : Int) ≤ c 1 ∧ (F.length : Int) ≤ c 1 ∧ (W.length : Int) ≤ c 1 ∧ (x.mn : Int) ≤ c 1 ∧ (x.tn : Int) ≤ c 1) = true
  rw [decide_eq_true_eq, hp, hf, hw]
  omega
 have HQ := Lib.hid hq
 clear h hr hp hf hw b1 b2 b3 b4 b5 hq
 go_enter Tryz.func62, Tryz.ntmps62
 go_upto_region 1 with (fail)
 generalize (w.alloc (.cells (cellsSx x) 28)).alloc (.cells (cellsOf c) 30) = Wd at *
 have zp := cel T.out.1 7
 have zf := cel T.out.1 8
 have zw := cel T.out.1 9
 have zm := cel T.out.1 10
 have zt := cel T.out.1 11
 have y1 := cel T.out.2.1 1
 go_wp2_with fail
 go_ret
 exact ⟨rfl, T.out.2.2⟩
set_option maxHeartbeats 3200000 in
theorem rul10_any (h : AuAt w x c V pd F W) : CallB 63 #[.agg (cellsSx x), .agg (cellsOf c)] w (.bool (ruleB c (anOf x V pd F W) 10)) := by
 have T := Lib.hid (SC.new w x c)
 have HH := Lib.hid h
 obtain ⟨r, hr⟩ := named (ruleB c (anOf x V pd F W) 10)
 rw [hr]
 have c13 := h.c13
 have HB := Lib.hid h.sx.nums.bk
 have HRB : Hid (r = decide (0 ≤ x.bk ∧ x.ep = x.bk / c 13)) := Lib.hid hr.symm
 clear h hr
 by_cases h0 : 0 ≤ x.bk
 ·have d0 : decide (0 ≤ x.bk) = true := decide_eq_true h0
  have d1 : decide (1 ≤ c 13) = true := decide_eq_true c13.1
  have d : (x.ep == x.bk / c 13) = r := by
   rw [HRB.out, Bool.eq_iff_iff, beq_iff_eq, decide_eq_true_eq]
   omega
  have hz : ¬ c 13 = 0 := by omega
  have hq : wrap64 (x.bk.tdiv (c 13)) = x.bk / c 13 := by
   have := HB.out
   unfold J64 at this
   have q0 : 0 ≤ x.bk / c 13 := Int.ediv_nonneg h0 (by omega)
   have q1 : x.bk / c 13 ≤ x.bk := Int.ediv_le_self _ h0
   rw [Int.tdiv_eq_ediv_of_nonneg h0]
   generalize x.bk / c 13 = z at *
   unfold wrap64
   omega
  go_enter Tryz.func63, Tryz.ntmps63
  go_upto_region 1 with (fail)
  generalize (w.alloc (.cells (cellsSx x) 28)).alloc (.cells (cellsOf c) 30) = Wd at *
  have zbk := cel T.out.1 0
  have zep := cel T.out.1 1
  have y13 := cel T.out.2.1 13
  go_quiet (fail)
  go_wp2_with fail
  go_ret
  exact ⟨rfl, below_drewN T.out.2.2 _⟩
 ·have d0 : decide (0 ≤ x.bk) = false := decide_eq_false h0
  have hrf : r = false := by rw [HRB.out]; exact decide_eq_false (by omega)
  subst hrf
  clear h0
  go_enter Tryz.func63, Tryz.ntmps63
  go_upto_region 1 with (fail)
  generalize (w.alloc (.cells (cellsSx x) 28)).alloc (.cells (cellsOf c) 30) = Wd at *
  have zbk := cel T.out.1 0
  have zep := cel T.out.1 1
  have y13 := cel T.out.2.1 13
  go_quiet (fail)
  go_wp2
  go_ret
  exact ⟨rfl, below_drewN T.out.2.2 _⟩
set_option maxHeartbeats 3200000 in
theorem rul11_any (h : AuAt w x c V pd F W) : CallB 64 #[.agg (cellsSx x), .agg (cellsOf c)] w (.bool (ruleB c (anOf x V pd F W) 11)) := by
 have T := Lib.hid (SC.new w x c)
 have HH := Lib.hid h
 obtain ⟨r, hr⟩ := named (ruleB c (anOf x V pd F W) 11)
 rw [hr]
 have HX : Hid (∀ W1, Below w.heap.size w W1 → CallB 108 #[.slice x.va x.vn x.vc, .func (.func 115) #[] #[]] W1 (.bool r)) := Lib.hid fun W1 hb => by
  rw [← hr]
  exact each_means _ _ _ _ _ V okS W1 (h.sx.vl.below hb) h.sx.vn (by have := h.vl; have := h.sx.vn; omega) (means_fn W1 _ V _ Tryz.call115 slashed1_any)
 clear h hr
 go_enter Tryz.func64, Tryz.ntmps64
 go_upto_region 1 with (fail)
 generalize (w.alloc (.cells (cellsSx x) 28)).alloc (.cells (cellsOf c) 30) = Wd at *
 have zv := cel T.out.1 2
 go_wp2_with fail
 refine (HX.out Wd T.out.2.2).mono ?_
 rintro e w1 ⟨rfl, hb⟩
 have B1 : Hid (Below w.heap.size w w1) := Lib.hid (T.out.2.2.trans (hb.mono T.out.2.2.size))
 clear hb
 go_wp2_with fail
 go_ret
 exact ⟨rfl, B1.out⟩
end
end
section
open Go Go.RowKit Go.Deep
set_option maxRecDepth 100000
def nmB : Nat → ByteArray
 | 0 => ⟨#[99, 97, 112, 97, 99, 105, 116, 121]⟩
 | 1 => ⟨#[115, 117, 109]⟩
 | 2 => ⟨#[115, 117, 112, 112, 108, 121]⟩
 | 3 => ⟨#[97, 99, 116, 105, 118, 101]⟩
 | 4 => ⟨#[112, 101, 110, 100, 105, 110, 103]⟩
 | 5 => ⟨#[101, 120, 105, 116, 115]⟩
 | 6 => ⟨#[101, 112, 111, 99, 104, 115]⟩
 | 7 => ⟨#[101, 109, 112, 116, 121]⟩
 | 8 => ⟨#[117, 110, 98, 111, 110, 100, 105, 110, 103]⟩
 | 9 => ⟨#[113, 117, 101, 117, 101, 115]⟩
 | 10 => ⟨#[99, 108, 111, 99, 107]⟩
 | 11 => ⟨#[115, 108, 97, 115, 104, 101, 100]⟩
 | _ => ⟨#[]⟩
def fnR : Nat → Nat
 | 0 => 53
 | 1 => 54
 | 2 => 55
 | 3 => 56
 | 4 => 57
 | 5 => 58
 | 6 => 59
 | 7 => 60
 | 8 => 61
 | 9 => 62
 | 10 => 63
 | 11 => 64
 | _ => 0
def rulRow (k : Nat) : Array Value := #[.string (nmB k), .func (.func (fnR k)) #[] #[]]
def rulC : Array Value := #[.string (nmB 0), .func (.func (fnR 0)) #[] #[], .string (nmB 1), .func (.func (fnR 1)) #[] #[], .string (nmB 2), .func (.func (fnR 2)) #[] #[], .string (nmB 3), .func (.func (fnR 3)) #[] #[], .string (nmB 4), .func (.func (fnR 4)) #[] #[], .string (nmB 5), .func (.func (fnR 5)) #[] #[], .string (nmB 6), .func (.func (fnR 6)) #[] #[], .string (nmB 7), .func (.func (fnR 7)) #[] #[], .string (nmB 8), .func (.func (fnR 8)) #[] #[], .string (nmB 9), .func (.func (fnR 9)) #[] #[], .string (nmB 10), .func (.func (fnR 10)) #[] #[], .string (nmB 11), .func (.func (fnR 11)) #[] #[]]
theorem rul_one (k : Nat) : (rulRow k).all (·.oneCell') = true := by simp [rulRow, Value.oneCell']
theorem rulC_one : rulC.all (·.oneCell') = true := by simp [rulC, Value.oneCell']
theorem infoRul : (Tryz.prog.info? 74).map (·.size) = some 2 := by kernel_rfl
theorem infoCf : (Tryz.prog.info? 30).map (·.size) = some 20 := by kernel_rfl
theorem infoRulC : (Tryz.prog.info? 75).map (·.size) = some 24 := by kernel_rfl
theorem index_rul0 (w : World) : (Instr.index 75 (.agg rulC) (.int .i64 (0 : Nat))).run Tryz.prog w = .ok (.agg (rulRow 0)) w := by kernel_rfl
theorem index_rul1 (w : World) : (Instr.index 75 (.agg rulC) (.int .i64 (1 : Nat))).run Tryz.prog w = .ok (.agg (rulRow 1)) w := by kernel_rfl
theorem index_rul2 (w : World) : (Instr.index 75 (.agg rulC) (.int .i64 (2 : Nat))).run Tryz.prog w = .ok (.agg (rulRow 2)) w := by kernel_rfl
theorem index_rul3 (w : World) : (Instr.index 75 (.agg rulC) (.int .i64 (3 : Nat))).run Tryz.prog w = .ok (.agg (rulRow 3)) w := by kernel_rfl
theorem index_rul4 (w : World) : (Instr.index 75 (.agg rulC) (.int .i64 (4 : Nat))).run Tryz.prog w = .ok (.agg (rulRow 4)) w := by kernel_rfl
theorem index_rul5 (w : World) : (Instr.index 75 (.agg rulC) (.int .i64 (5 : Nat))).run Tryz.prog w = .ok (.agg (rulRow 5)) w := by kernel_rfl
theorem index_rul6 (w : World) : (Instr.index 75 (.agg rulC) (.int .i64 (6 : Nat))).run Tryz.prog w = .ok (.agg (rulRow 6)) w := by kernel_rfl
theorem index_rul7 (w : World) : (Instr.index 75 (.agg rulC) (.int .i64 (7 : Nat))).run Tryz.prog w = .ok (.agg (rulRow 7)) w := by kernel_rfl
theorem index_rul8 (w : World) : (Instr.index 75 (.agg rulC) (.int .i64 (8 : Nat))).run Tryz.prog w = .ok (.agg (rulRow 8)) w := by kernel_rfl
theorem index_rul9 (w : World) : (Instr.index 75 (.agg rulC) (.int .i64 (9 : Nat))).run Tryz.prog w = .ok (.agg (rulRow 9)) w := by kernel_rfl
theorem index_rul10 (w : World) : (Instr.index 75 (.agg rulC) (.int .i64 (10 : Nat))).run Tryz.prog w = .ok (.agg (rulRow 10)) w := by kernel_rfl
theorem index_rul11 (w : World) : (Instr.index 75 (.agg rulC) (.int .i64 (11 : Nat))).run Tryz.prog w = .ok (.agg (rulRow 11)) w := by kernel_rfl
theorem index_rul (k : Nat) (hk : k < 12) (w : World) : (Instr.index 75 (.agg rulC) (.int .i64 (k : Int))).run Tryz.prog w = .ok (.agg (rulRow k)) w := by
 have : k = 0 ∨ k = 1 ∨ k = 2 ∨ k = 3 ∨ k = 4 ∨ k = 5 ∨ k = 6 ∨ k = 7 ∨ k = 8 ∨ k = 9 ∨ k = 10 ∨ k = 11 := by omega
 rcases this with rfl | rfl | rfl | rfl | rfl | rfl | rfl | rfl | rfl | rfl | rfl | rfl
 ·exact index_rul0 w
 ·exact index_rul1 w
 ·exact index_rul2 w
 ·exact index_rul3 w
 ·exact index_rul4 w
 ·exact index_rul5 w
 ·exact index_rul6 w
 ·exact index_rul7 w
 ·exact index_rul8 w
 ·exact index_rul9 w
 ·exact index_rul10 w
 ·exact index_rul11 w
theorem enter_rul (k : Nat) (hk : k < 12) (args : Array Value) (w : World) : (callFunc (fnR k) args).run Tryz.prog w = .ok (.enter (fnR k) args) w := by
 have : k = 0 ∨ k = 1 ∨ k = 2 ∨ k = 3 ∨ k = 4 ∨ k = 5 ∨ k = 6 ∨ k = 7 ∨ k = 8 ∨ k = 9 ∨ k = 10 ∨ k = 11 := by omega
 rcases this with rfl | rfl | rfl | rfl | rfl | rfl | rfl | rfl | rfl | rfl | rfl | rfl
 ·exact Tryz.call53 args w
 ·exact Tryz.call54 args w
 ·exact Tryz.call55 args w
 ·exact Tryz.call56 args w
 ·exact Tryz.call57 args w
 ·exact Tryz.call58 args w
 ·exact Tryz.call59 args w
 ·exact Tryz.call60 args w
 ·exact Tryz.call61 args w
 ·exact Tryz.call62 args w
 ·exact Tryz.call63 args w
 ·exact Tryz.call64 args w
theorem rul_any {x : Sx} {c : Nat → Int} {V : List Val} {pd F W : List Int} (k : Nat) (hk : k < 12) (w : World) (h : AuAt w x c V pd F W) : Calls Tryz.prog (fnR k) #[.agg (cellsSx x), .agg (cellsOf c)] w fun e w' => e = .returned (.bool (ruleB c (anOf x V pd F W) k)) ∧ Below w.heap.size w w' := by
 have : k = 0 ∨ k = 1 ∨ k = 2 ∨ k = 3 ∨ k = 4 ∨ k = 5 ∨ k = 6 ∨ k = 7 ∨ k = 8 ∨ k = 9 ∨ k = 10 ∨ k = 11 := by omega
 rcases this with rfl | rfl | rfl | rfl | rfl | rfl | rfl | rfl | rfl | rfl | rfl | rfl
 ·exact rul0_any h
 ·exact rul1_any h
 ·exact rul2_any h h.c4
 ·exact rul3_any h
 ·exact rul4_any h
 ·exact rul5_any h
 ·exact rul6_any h
 ·exact rul7_any h
 ·exact rul8_any h
 ·exact rul9_any h
 ·exact rul10_any h
 ·exact rul11_any h
set_option maxHeartbeats 1600000 in
theorem rules_any (w : World) : CallB 30 #[] w (.agg rulC) := by
 go_enter Tryz.func30, Tryz.ntmps30
 go_wp2_with (first | (refine wsr w.heap.size rulC 75 (heap_alloc_new w _) infoRulC rulC_one ?_; rw [World.setRow_alloc_new]))
 exact bodyPost_ret (v := .agg rulC) (results_cell_row (fn := Tryz.f30) rfl _ _ w.heap.size 75 _ (0, 0) _ rfl (heap_alloc_new w _) Tryz.underlying75 rfl infoRulC) rfl ⟨rfl, (Below.refl _ _).alloc (Nat.le_refl _) _⟩
theorem Rules_any (w : World) : CallB 24 #[] w (.int .i64 12) := by
 go_enter Tryz.func24, Tryz.ntmps24
 go_wp2_with fail
 refine (rules_any w).mono ?_
 rintro e w1 ⟨rfl, hb⟩
 have HB := Lib.hid hb
 clear hb
 generalize rulC = q at *
 go_wp2_with fail
 go_ret
 exact ⟨rfl, HB.out⟩
def nameB (r : Int) : ByteArray := if 1 ≤ r ∧ r ≤ 12 then nmB (r - 1).toNat else ⟨#[]⟩
theorem fd_rul (k : Nat) (w : World) : (Instr.field 74 (.agg (rulRow k)) 0).run Tryz.prog w = .ok (.string (nmB k)) w := by kernel_rfl
set_option maxHeartbeats 1600000 in
theorem Name_any (r : Int) (w : World) (hr : (Lit.int .i64 r).wf = true) : CallB 23 #[.int .i64 r] w (.string (nameB r)) := by
 obtain ⟨b0, b1⟩ := bounds_i64 hr
 clear hr
 by_cases h1 : r < 1
 ·have e : nameB r = ⟨#[]⟩ := if_neg (by omega)
  have d : decide (r < 1) = true := decide_eq_true h1
  rw [e]
  clear h1 e b0 b1
  go_enter Tryz.func23, Tryz.ntmps23
  go_wp2_with fail
  go_ret
  exact ⟨rfl, Below.refl _ _⟩
 ·have d : decide (r < 1) = false := decide_eq_false h1
  by_cases h2 : 12 < r
  ·have e : nameB r = ⟨#[]⟩ := if_neg (by omega)
   have d2 : decide (12 < r) = true := decide_eq_true h2
   rw [e]
   clear h1 h2 e b0 b1
   go_enter Tryz.func23, Tryz.ntmps23
   go_wp2_with fail
   refine (Rules_any w).mono ?_
   rintro e w1 ⟨rfl, hb⟩
   have HB := Lib.hid hb
   clear hb
   go_wp2_with fail
   go_ret
   exact ⟨rfl, HB.out⟩
  ·have d2 : decide (12 < r) = false := decide_eq_false h2
   obtain ⟨k, hk⟩ : ∃ k : Nat, r = (k : Int) + 1 := ⟨(r - 1).toNat, by omega⟩
   have hk12 : k < 12 := by omega
   have e : nameB r = nmB k := by unfold nameB; rw [if_pos (by omega), show (r - 1).toNat = k by omega]
   rw [e]
   have hw : wrap64 (r - 1) = (k : Int) := by unfold wrap64; omega
   have HI := Lib.hid (index_rul k hk12)
   have HF := Lib.hid (fd_rul k)
   generalize hq : nmB k = q at *
   generalize hro : rulRow k = ro at *
   clear h1 h2 e b0 b1 hq hro hk
   go_enter Tryz.func23, Tryz.ntmps23
   go_wp2_with fail
   refine (Rules_any w).mono ?_
   rintro e w1 ⟨rfl, hb⟩
   have HB := Lib.hid hb
   clear hb
   go_wp2_with fail
   refine (rules_any w1).mono ?_
   rintro e w2 ⟨rfl, hb⟩
   have HB2 : Hid (Below w.heap.size w w2) := Lib.hid (HB.out.trans (hb.mono HB.out.size))
   clear hb
   have hI := HI.out
   have hF := HF.out
   generalize rulC = rc at *
   go_wp2_with fail
   go_ret
   exact ⟨rfl, HB2.out⟩
set_option maxHeartbeats 3200000 in
theorem Check_any {x : Sx} {c : Nat → Int} {V : List Val} {pd F W : List Int} (w : World) (h : AuAt w x c V pd F W) : CallB 16 #[.agg (cellsSx x), .agg (cellsOf c)] w (.int .i64 (firstV c (anOf x V pd F W))) := by
 have T0 := Lib.hid (SC.new w x c)
 have HH := Lib.hid h
 generalize hs : anOf x V pd F W = s at *
 have HS := Lib.hid hs
 clear h hs
 go_enter Tryz.func16, Tryz.ntmps16
 go_upto_region 1 with (fail)
 generalize (w.alloc (.cells (cellsSx x) 28)).alloc (.cells (cellsOf c) 30) = Wd at *
 go_wp2_with fail
 refine (rules_any Wd).mono ?_
 rintro e w1 ⟨rfl, hb⟩
 have T1 := Lib.hid (T0.out.next hb)
 clear hb T0
 go_wp2_with fail
 go_loopw [8] (fun s8 wr => ∃ k : Nat, k ≤ 12 ∧ s8 = .int .i64 k ∧ Hid (violK c s k = []) ∧ Hid (SC w wr x c)) (fun s8 _ => 12 - (intOf s8).toNat)
 case atStart => exact ⟨0, by omega, rfl, Lib.hid rfl, T1⟩
 case round =>
  obtain ⟨k, hk, rfl, HV, T⟩ := hrel
  by_cases h12 : k < 12
  ·have hix := index_rul k h12
   have hen := enter_rul k h12
   have hone := rul_one k
   have T2 := Lib.hid (T.out.next ((Below.refl _ wr).alloc (Nat.le_refl _) (.cells (rulRow k) 74)))
   have N2 : Hid (Blk (wr.alloc (.cells (rulRow k) 74)) wr.heap.size 74 (rulRow k)) := Lib.hid (Blk.new wr _ _)
   have HR : Hid (∀ W', Below w.heap.size w W' → Calls Tryz.prog (fnR k) #[.agg (cellsSx x), .agg (cellsOf c)] W' fun e w' => e = .returned (.bool (ruleB c s k)) ∧ Below W'.heap.size W' w') := Lib.hid fun W' hb => by
    rw [← HS.out]
    exact rul_any k h12 W' (HH.out.below hb)
   clear T
   generalize hrc : rulC = rc at *
   clear hrc
   go_upto_region 4 with (first | (refine wsr wr.heap.size (rulRow k) 74 (heap_alloc_new wr _) infoRul hone ?_; rw [World.setRow_alloc_new]))
   try simp only [Act.put]
   generalize wr.alloc (.cells (rulRow k) 74) = W2 at *
   generalize wr.heap.size = g at *
   have z1 : W2.cell? ⟨g, 1, none⟩ = some (.func (.func (fnR k)) #[] #[]) := N2.out.cell 1
   clear hix hone N2
   generalize fnR k = fk at *
   go_wp2_with (first | (refine wlr 28 w.heap.size T2.out.1 Tryz.underlying28 infoSx ?_) | (refine wlr 30 (w.heap.size + 1) T2.out.2.1 Tryz.underlying30 infoCf ?_))
   refine (HR.out W2 T2.out.2.2).mono ?_
   rintro e w3 ⟨rfl, hb⟩
   have T3 := Lib.hid (T2.out.next hb)
   clear hb HR T2 z1
   cases hr : ruleB c s k with
   | true =>
    have HV2 : Hid (violK c s (k + 1) = []) := Lib.hid ((viol_yes hr).trans HV.out)
    clear hr HV
    go_wp2_with fail
    go_roundw
    case rel => exact ⟨k + 1, by omega, by go_num, HV2, T3⟩
    case measure => simp [intOf]; omega
   | false =>
    have HF : Hid (firstV c s = (k : Int) + 1) := Lib.hid (first_at h12 HV.out hr)
    clear hr HV
    go_wp2_with fail
    go_ret
    exact ⟨by rw [HF.out]; rfl, T3.out.2.2⟩
  ·obtain rfl : k = 12 := by omega
   have HF : Hid (firstV c s = 0) := Lib.hid (first_none HV.out)
   clear HV
   generalize rulC = rc at *
   go_wp2_with fail
   go_ret
   exact ⟨by rw [HF.out]; rfl, T.out.2.2⟩
set_option maxHeartbeats 3200000 in
theorem All_any {x : Sx} {c : Nat → Int} {V : List Val} {pd F W : List Int} (w : World) (h : AuAt w x c V pd F W) : Calls Tryz.prog 13 #[.agg (cellsSx x), .agg (cellsOf c)] w fun e w' => ∃ v, e = .returned v ∧ OwnI w' w.heap.size v (violK c (anOf x V pd F W) 12) ∧ Below w.heap.size w w' := by
 have T0 := Lib.hid (SC.new w x c)
 have HH := Lib.hid h
 generalize hs : anOf x V pd F W = s at *
 have HS := Lib.hid hs
 obtain ⟨i8, hi8, hz8, hs8, hb8⟩ := int_app
 clear h hs
 go_enter Tryz.func13, Tryz.ntmps13
 go_upto_region 1 with (fail)
 generalize (w.alloc (.cells (cellsSx x) 28)).alloc (.cells (cellsOf c) 30) = Wd at *
 go_wp2_with fail
 refine (rules_any Wd).mono ?_
 rintro e w1 ⟨rfl, hb⟩
 have T1 := Lib.hid (T0.out.next hb)
 clear hb T0
 go_wp2_with fail
 go_loopw [5, 9] (fun s5 s9 wr => ∃ k : Nat, k ≤ 12 ∧ s9 = .int .i64 k ∧ Hid (OwnI wr (w.heap.size + 2) s5 (violK c s k)) ∧ Hid (SC w wr x c)) (fun _ s9 _ => 12 - (intOf s9).toNat)
 case atStart => exact ⟨0, by omega, rfl, Lib.hid (World.ownsRow_nil _ _ _ _), T1⟩
 case round =>
  obtain ⟨k, hk, rfl, HV, T⟩ := hrel
  by_cases h12 : k < 12
  ·have hix := index_rul k h12
   have hen := enter_rul k h12
   have hone := rul_one k
   have T2 := Lib.hid (T.out.next ((Below.refl _ wr).alloc (Nat.le_refl _) (.cells (rulRow k) 74)))
   have V2 := Lib.hid (HV.out.alloc (.cells (rulRow k) 74))
   have N2 : Hid (Blk (wr.alloc (.cells (rulRow k) 74)) wr.heap.size 74 (rulRow k)) := Lib.hid (Blk.new wr _ _)
   have HR : Hid (∀ W', Below w.heap.size w W' → Calls Tryz.prog (fnR k) #[.agg (cellsSx x), .agg (cellsOf c)] W' fun e w' => e = .returned (.bool (ruleB c s k)) ∧ Below W'.heap.size W' w') := Lib.hid fun W' hb => by
    rw [← HS.out]
    exact rul_any k h12 W' (HH.out.below hb)
   clear T HV
   generalize hrc : rulC = rc at *
   clear hrc
   go_upto_region 5 with (first | (refine wsr wr.heap.size (rulRow k) 74 (heap_alloc_new wr _) infoRul hone ?_; rw [World.setRow_alloc_new]))
   try simp only [Act.put]
   generalize wr.alloc (.cells (rulRow k) 74) = W2 at *
   generalize wr.heap.size = g at *
   have z1 : W2.cell? ⟨g, 1, none⟩ = some (.func (.func (fnR k)) #[] #[]) := N2.out.cell 1
   clear hix hone N2
   generalize fnR k = fk at *
   go_wp2_with (first | (refine wlr 28 w.heap.size T2.out.1 Tryz.underlying28 infoSx ?_) | (refine wlr 30 (w.heap.size + 1) T2.out.2.1 Tryz.underlying30 infoCf ?_))
   refine (HR.out W2 T2.out.2.2).mono ?_
   rintro e w3 ⟨rfl, hb⟩
   have T3 := Lib.hid (T2.out.next hb)
   have V3 := Lib.hid (ownsR_below V2.out hb)
   clear hb HR T2 z1 V2
   cases hr : ruleB c s k with
   | true =>
    have HV2 : Hid (violK c s (k + 1) = violK c s k) := Lib.hid (viol_yes hr)
    clear hr
    go_wp2_with fail
    go_roundw
    case rel => exact ⟨k + 1, by omega, by go_num, Lib.hid (by rw [HV2.out]; exact V3.out), T3⟩
    case measure => simp [intOf]; omega
   | false =>
    have HV2 : Hid (violK c s (k + 1) = violK c s k ++ [(k : Int) + 1]) := Lib.hid (viol_no hr)
    have HLN : Hid ((violK c s k).length ≤ 12) := Lib.hid (Nat.le_trans (viol_len c s k) (by omega))
    clear hr
    generalize violK c s k = L at *
    obtain ⟨m, hmm⟩ := named (L.length)
    have V4 : Hid (w3.ownsRow (w.heap.size + 2) 3 1 u5 m (L.map (Value.int .i64))) := Lib.hid (by rw [← hmm]; exact V3.out)
    rw [hmm] at HLN
    have HMM := Lib.hid hmm
    clear hmm V3
    go_wp2_with (at_builtin; refine wpList_append_src _ rfl _ _ 24 rfl (w.heap.size + 2) 3 i8 _ 1 8 Tryz.underlying24 hi8 hz8 hs8 hb8 rfl Nat.one_pos u5 m (L.map (Value.int .i64)) rfl (V4.out.alloc _) (some ⟨w3.heap.size, 0, none⟩) 1 1 [.int .i64 ((k : Int) + 1)] rfl rfl (fun _ => ⟨_, rfl, cell_one_new w3 _ _⟩) (by simp [Value.oneCell']) (by have := HLN.out; unfold maxLen; omega) (by have := HLN.out; omega) (by have := T3.out.2.1.lt; simp; omega) ?_; intro v1 w4 ho hg hv1)
    have HZ : Hid (OwnI w4 (w.heap.size + 2) v1 (violK c s (k + 1)) ∧ SC w w4 x c) := Lib.hid (by
     have hlt := T3.out.2.1.lt
     have hsz := T3.out.2.2.size
     have hge : ∀ q, u5.ownBlock = some q → w.heap.size + 2 ≤ q := fun q hq => by
      rcases V4.out.2 with ⟨h1, _⟩ | ⟨g, cp', cur, h1, h2, _⟩
      ·rw [h1] at hq; cases hq
      ·rw [h1] at hq; simp [Value.ownBlock] at hq; omega
     have hT4 := T3.out.next ((Below.refl _ w3).alloc (Nat.le_refl _) (.cells #[.int .i64 ((k : Int) + 1)] 3))
     refine ⟨?_, hT4.1.grown hg (fun e => ?_), hT4.2.1.grown hg (fun e => ?_), hT4.2.2.grown hg hT4.2.2.size (fun q hq => by have := hge q hq; omega)⟩
     ·unfold OwnI
      rw [HV2.out, List.length_append, HMM.out, List.map_append]
      exact ho
     ·have := hge _ e.symm; omega
     ·have := hge _ e.symm; omega)
    clear ho hg hv1 V4 T3
    go_wp2_with fail
    go_roundw
    case rel => exact ⟨k + 1, by omega, by go_num, Lib.hid HZ.out.1, Lib.hid HZ.out.2⟩
    case measure => simp [intOf]; omega
  ·obtain rfl : k = 12 := by omega
   generalize rulC = rc at *
   go_wp2_with fail
   go_ret
   exact ⟨_, rfl, ownsR_base HV.out (by omega), T.out.2.2⟩
end
end Go.Proofs.YtobgbcdgffgdhaaGreat
