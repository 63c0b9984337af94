/- Part 11 of 29: Sx Cat L03RefCheck L12Base2 L12Ops L12Acts L12Lists L13Done L13Proc L13Step L18Good L13Weight L14Bnd L08Due L08DueB L17Collect L03CheckC L21Equal. -/
import Derived.Test.YtobgbcdgffgdhaaGreatZu07
import Derived.Test.YtobgbcdgffgdhaaGreatZu08
import Derived.Deep.DeepCutAuto
import Derived.Lib.AppendZerosOnto
namespace Go.Proofs.YtobgbcdgffgdhaaGreat
set_option linter.unusedVariables false
set_option linter.unusedSimpArgs false
section
open Go Go.ChangeShapes Go.WideShapes Go.RowKit Go.Deep
set_option maxRecDepth 100000
structure Sx where
 bk : Int
 ep : Int
 va : Option Addr
 vn : Nat
 vc : Nat
 D : Int
 P : Int
 B : Int
 ac : Int
 pa : Option Addr
 pn : Nat
 pc : Nat
 fa : Option Addr
 fn : Nat
 fc : Nat
 wa : Option Addr
 wn : Nat
 wc : Nat
 ma : Option Addr
 mn : Nat
 mc : Nat
 ta : Option Addr
 tn : Nat
 tc : Nat
 cu : Int
 cy : Int
 un : Int
def Sx.row (v : Sx) : List Value := [.int .i64 v.bk, .int .i64 v.ep, .slice v.va v.vn v.vc, .int .u64 v.D, .int .u64 v.P, .int .u64 v.B, .int .u64 v.ac, .slice v.pa v.pn v.pc, .slice v.fa v.fn v.fc, .slice v.wa v.wn v.wc, .slice v.ma v.mn v.mc, .slice v.ta v.tn v.tc, .int .i64 v.cu, .int .u64 v.cy, .int .i64 v.un]
def cellsSx (v : Sx) : Array Value := v.row.toArray
def J64 (x : Int) : Prop := -9223372036854775808 ≤ x ∧ x ≤ 9223372036854775807
def K64 (x : Int) : Prop := 0 ≤ x ∧ x ≤ 18446744073709551615
structure SxNums (v : Sx) : Prop where
 bk : J64 v.bk
 ep : J64 v.ep
 D : K64 v.D
 P : K64 v.P
 B : K64 v.B
 ac : K64 v.ac
 un : J64 v.un
 mn : v.mn ≤ maxLen
 tn : v.tn ≤ maxLen
structure SxAt (w : World) (S : Nat → Prop) (v : Sx) (V : List Val) (pd F W : List Int) : Prop where
 nums : SxNums v
 vl : Lst w S v.va V
 vn : V.length = v.vn
 vc : v.vn ≤ v.vc ∧ v.vc ≤ maxLen
 vf : ∀ x ∈ V, FitsV x
 pl : IntsAt w S v.pa pd
 pn : pd.length = v.pn
 pc : v.pn ≤ v.pc ∧ v.pc ≤ maxLen
 pf : ∀ x ∈ pd, (Lit.int .i64 x).wf = true
 fl : IntsAt w S v.fa F
 fn : F.length = v.fn
 fc : v.fn ≤ v.fc ∧ v.fc ≤ maxLen
 ff : ∀ x ∈ F, (Lit.int .i64 x).wf = true
 wl : IntsAt w S v.wa W
 wn : W.length = v.wn
 wc : v.wn ≤ v.wc ∧ v.wc ≤ maxLen
 wf : ∀ x ∈ W, (Lit.int .i64 x).wf = true
def anOf (v : Sx) (V : List Val) (pd F W : List Int) : An := ⟨v.bk, v.ep, V, v.D, v.P, v.B, v.ac, pd, F, W, v.mn, v.tn, v.un⟩
theorem Sx.row_one (v : Sx) : ∀ u ∈ v.row, u.oneCell' = true := by
 intro u hu
 simp only [Sx.row, List.mem_cons, List.not_mem_nil, or_false] at hu
 rcases hu with rfl | rfl | rfl | rfl | rfl | rfl | rfl | rfl | rfl | rfl | rfl | rfl | rfl | rfl | rfl <;> rfl
theorem cellsSx_one (v : Sx) : (cellsSx v).all (·.oneCell') = true := by
 refine Array.all_eq_true_iff_forall_mem.2 (fun u hu => Sx.row_one v u (by simpa [cellsSx] using hu))
theorem infoSx : (Tryz.prog.info? 28).map (·.size) = some 15 := by kernel_rfl
section
variable {w w' : World} {S T : Nat → Prop} {v : Sx} {V : List Val} {pd F W : List Int}
theorem SxAt.below (h : SxAt w S v V pd F W) (hb : Below w.heap.size w w') : SxAt w' S v V pd F W := { h with vl := h.vl.below hb, pl := h.pl.below hb, fl := h.fl.below hb, wl := h.wl.below hb }
theorem j64_of {x : Int} (h : (Lit.int .i64 x).wf = true) : J64 x := by
 simp [Lit.wf, IntKind.min, IntKind.max, IntKind.signed, IntKind.bits] at h
 unfold J64
 omega
theorem k64_of {x : Int} (h : (Lit.int .u64 x).wf = true) : K64 x := by
 simp [Lit.wf, IntKind.min, IntKind.max, IntKind.signed, IntKind.bits] at h
 unfold K64
 omega
end
def rowJ (x : Int) : List Value := [.int .i64 x]
theorem ints_of_lstR {w : World} {a : Option Addr} {L : List Int} (h : LstR rowJ 1 w (fun _ => False) a L) : IntsAt w (fun _ => False) a L := fun h0 => by
 obtain ⟨b, off, h1, h2, h3, h4⟩ := h h0
 refine ⟨b, off, h1, h2, h3, fun j hj => ?_⟩
 have := h4 j _ (List.getElem?_eq_getElem hj) 0 _ rfl
 rw [Nat.mul_one, Nat.add_zero] at this
 rw [this, List.getD_eq_getElem?_getD, List.getElem?_eq_getElem hj]
 rfl
def FitsSx (w : World) (v : Sx) : Prop := ∃ V pd F W, SxAt w (fun _ => False) v V pd F W
section
variable {H : Type} {enc : TypeId × Value → H} {w : World} {base : Nat} {held : Bool}
theorem trodI {n : Nat} {cs : List Value} {x : DataW H × List MemPlace} (hl : cs.length = 1) (h : DataW.trod enc Tryz.prog w base (fun _ => true) held n 3 cs = some x) : ∃ v : Int, cs = rowJ v ∧ (Lit.int .i64 v).wf = true := by
 match cs, hl with
 | [a], _ =>
  obtain ⟨x, e, _, hw⟩ := DataW.trod_int Tryz.underlying3 h
  injection e with e
  exact ⟨x, by rw [e]; rfl, hw⟩
theorem ints_of_trod {n : Nat} {v : Value} {y : DataW H × List MemPlace} (hf : DataW.trod enc Tryz.prog w base (fun _ => true) held n 24 [v] = some y) :
  ∃ (a : Option Addr) (len cap : Nat), v = .slice a len cap ∧ len ≤ cap ∧ cap ≤ maxLen ∧ ∃ L : List Int, L.length = len ∧ (∀ x ∈ L, (Lit.int .i64 x).wf = true) ∧ IntsAt w (fun _ => False) a L := by
 obtain ⟨a, n, c, h1, h2, h3, L, h4, h5, h6⟩ := lstR_of_trod (k := 1) (row := rowJ) Tryz.underlying24 (by kernel_rfl) (fun _ => rfl) (by decide) (fun n cs x h hl => trodI hl h) hf
 exact ⟨a, n, c, h1, h2, h3, L, h4, h5, ints_of_lstR h6⟩
theorem len_of_trod {t e : TypeId} {n : Nat} {v : Value} {y : DataW H × List MemPlace} (ht : Tryz.prog.underlying t = some (.slice e)) (hf : DataW.trod enc Tryz.prog w base (fun _ => true) held n t [v] = some y) : ∃ (a : Option Addr) (len cap : Nat), v = .slice a len cap ∧ len ≤ cap ∧ cap ≤ maxLen := by
 rcases open_slice ht hf with h0 | ⟨x, l, c, m, n, D, Pl, hcs, hb, hl, hm, hmm, hx, hi⟩
 ·have hcs := h0.1
  injection hcs with hcs
  exact ⟨none, 0, 0, hcs, by omega, by unfold maxLen; omega⟩
 ·injection hcs with hcs
  exact ⟨some x, l, c, by simpa using hcs, by simpa using hl, hm⟩
theorem trodSx {n : Nat} {cs : List Value} {x : DataW H × List MemPlace} (h : DataW.trod enc Tryz.prog w base (fun _ => true) held n 28 cs = some x) : ∃ v : Sx, cs = v.row ∧ FitsSx w v := by
 obtain ⟨ys, n', hn', hy, hlen, hyl, hf⟩ := DataW.trod_struct Tryz.underlying28 h
 have hlen : cs.length = 15 := hlen.trans (by kernel_rfl)
 have hyl : ys.length = 15 := hyl
 have get : ∀ j (f : Field), j < 15 → f.offset = j → Tryz.prog.cellsOf f.type = 1 → DataW.trod enc Tryz.prog w base (fun _ => true) held n' f.type ((cs.drop f.offset).take (Tryz.prog.cellsOf f.type)) = ys[j]? → ∃ v y, cs[j]? = some v ∧ DataW.trod enc Tryz.prog w base (fun _ => true) held n' f.type [v] = some y := by
  intro j f hj ho hc ht
  rw [ho, hc, List.drop_eq_getElem_cons (by omega), List.getElem?_eq_getElem (by omega)] at ht
  exact ⟨_, _, List.getElem?_eq_getElem (by omega), ht⟩
 obtain ⟨v0, y0, c0, t0⟩ := get 0 _ (by omega) rfl (by kernel_rfl) (hf 0 _ rfl)
 obtain ⟨v1, y1, c1, t1⟩ := get 1 _ (by omega) rfl (by kernel_rfl) (hf 1 _ rfl)
 obtain ⟨v2, y2, c2, t2⟩ := get 2 _ (by omega) rfl (by kernel_rfl) (hf 2 _ rfl)
 obtain ⟨v3, y3, c3, t3⟩ := get 3 _ (by omega) rfl (by kernel_rfl) (hf 3 _ rfl)
 obtain ⟨v4, y4, c4, t4⟩ := get 4 _ (by omega) rfl (by kernel_rfl) (hf 4 _ rfl)
 obtain ⟨v5, y5, c5, t5⟩ := get 5 _ (by omega) rfl (by kernel_rfl) (hf 5 _ rfl)
 obtain ⟨v6, y6, c6, t6⟩ := get 6 _ (by omega) rfl (by kernel_rfl) (hf 6 _ rfl)
 obtain ⟨v7, y7, c7, t7⟩ := get 7 _ (by omega) rfl (by kernel_rfl) (hf 7 _ rfl)
 obtain ⟨v8, y8, c8, t8⟩ := get 8 _ (by omega) rfl (by kernel_rfl) (hf 8 _ rfl)
 obtain ⟨v9, y9, c9, t9⟩ := get 9 _ (by omega) rfl (by kernel_rfl) (hf 9 _ rfl)
 obtain ⟨v10, y10, c10, t10⟩ := get 10 _ (by omega) rfl (by kernel_rfl) (hf 10 _ rfl)
 obtain ⟨v11, y11, c11, t11⟩ := get 11 _ (by omega) rfl (by kernel_rfl) (hf 11 _ rfl)
 obtain ⟨v12, y12, c12, t12⟩ := get 12 _ (by omega) rfl (by kernel_rfl) (hf 12 _ rfl)
 obtain ⟨v13, y13, c13, t13⟩ := get 13 _ (by omega) rfl (by kernel_rfl) (hf 13 _ rfl)
 obtain ⟨v14, y14, c14, t14⟩ := get 14 _ (by omega) rfl (by kernel_rfl) (hf 14 _ rfl)
 obtain ⟨x0, e0, _, w0⟩ := DataW.trod_int Tryz.underlying3 t0
 obtain ⟨x1, e1, _, w1⟩ := DataW.trod_int Tryz.underlying3 t1
 obtain ⟨a2, n2, k2, rfl, q21, q22, V, q23, q24, q25⟩ := lstR_of_trod (k := 7) (row := Val.row) Tryz.underlying22 (by kernel_rfl) (fun _ => rfl) (by decide) (fun n cs x h _ => trod_val h) t2
 obtain ⟨x3, e3, _, w3⟩ := DataW.trod_int Tryz.underlying23 t3
 obtain ⟨x4, e4, _, w4⟩ := DataW.trod_int Tryz.underlying23 t4
 obtain ⟨x5, e5, _, w5⟩ := DataW.trod_int Tryz.underlying23 t5
 obtain ⟨x6, e6, _, w6⟩ := DataW.trod_int Tryz.underlying23 t6
 obtain ⟨a7, n7, k7, rfl, q71, q72, L7, q73, q74, q75⟩ := ints_of_trod t7
 obtain ⟨a8, n8, k8, rfl, q81, q82, L8, q83, q84, q85⟩ := ints_of_trod t8
 obtain ⟨a9, n9, k9, rfl, q91, q92, L9, q93, q94, q95⟩ := ints_of_trod t9
 obtain ⟨a10, n10, k10, rfl, qa1, qa2⟩ := len_of_trod Tryz.underlying25 t10
 obtain ⟨a11, n11, k11, rfl, qb1, qb2⟩ := len_of_trod Tryz.underlying26 t11
 obtain ⟨x12, e12, _, w12⟩ := DataW.trod_int Tryz.underlying3 t12
 obtain ⟨x13, e13, _, w13⟩ := DataW.trod_int Tryz.underlying23 t13
 obtain ⟨x14, e14, _, w14⟩ := DataW.trod_int Tryz.underlying3 t14
 injection e0 with e0; injection e1 with e1; injection e3 with e3; injection e4 with e4; injection e5 with e5; injection e6 with e6; injection e12 with e12; injection e13 with e13; injection e14 with e14
 subst e0 e1 e3 e4 e5 e6 e12 e13 e14
 refine ⟨⟨x0, x1, a2, n2, k2, x3, x4, x5, x6, a7, n7, k7, a8, n8, k8, a9, n9, k9, a10, n10, k10, a11, n11, k11, x12, x13, x14⟩, ?_, V, L7, L8, L9, ⟨j64_of w0, j64_of w1, k64_of w3, k64_of w4, k64_of w5, k64_of w6, j64_of w14, Nat.le_trans qa1 qa2, Nat.le_trans qb1 qb2⟩, q25, q23, ⟨q21, q22⟩, q24, q75, q73, ⟨q71, q72⟩, q74, q85, q83, ⟨q81, q82⟩, q84, q95, q93, ⟨q91, q92⟩, q94⟩
 match cs, hlen with
 | [b0, b1, b2, b3, b4, b5, b6, b7, b8, b9, b10, b11, b12, b13, b14], _ =>
  simp at c0 c1 c2 c3 c4 c5 c6 c7 c8 c9 c10 c11 c12 c13 c14
  subst c0 c1 c2 c3 c4 c5 c6 c7 c8 c9 c10 c11 c12 c13 c14
  rfl
theorem open_T28 {r : Reach} {b0 : Nat} {v : Value} {d : DataW H} {p : List MemPlace}
  (hv : Value.okWide Tryz.prog w r b0 28 v) (h : DataW.Trod enc Tryz.prog w base (fun _ => true) held 28 v d p) : ∃ c : Sx, v = .agg (cellsSx c) ∧ FitsSx w c := by
 obtain ⟨cs, rfl, hsz⟩ := okWide_struct Tryz.underlying28 hv
 obtain ⟨fuel, hf⟩ := h
 obtain ⟨c, hc, hfit⟩ := trodSx hf
 refine ⟨c, ?_, hfit⟩
 have : cs.toList = c.row := hc
 rw [cellsSx, ← this]
end
end
section
open Go Go.RowKit Go.Deep
set_option maxRecDepth 100000
def OwnI (w : World) (base : Nat) (v : Value) (l : List Int) : Prop := w.ownsRow base 3 1 v l.length (l.map (Value.int .i64))
set_option maxHeartbeats 3200000 in
theorem grow_nil (n : Nat) (w : World) (hn : n ≤ 20000) : Calls Tryz.prog 145 #[.slice none 0 0, .int .i64 n] w fun e w' => ∃ v, e = .returned v ∧ OwnI w' w.heap.size v [] ∧ Below w.heap.size w w' := by
 have h1 : ¬ ((n : Int) < 0) := by omega
 by_cases h0 : n = 0
 ·subst h0
  go_enter Tryz.func145, Tryz.ntmps145
  go_wp2
  go_ret
  exact ⟨_, rfl, World.ownsRow_nil _ _ _ _, Below.refl _ _⟩
 ·obtain ⟨i0, hi0, hz0, hs0, hb0⟩ := int_app
  have hsz : (Value.int .i64 0).cells.size = 1 := rfl
  have hold : (Builtin.firstCells i0.size 0 (.slice none 0 0)).run Tryz.prog w.drew = .ok ([] : List Value).toArray w.drew := run_firstCells_none w.drew i0.size 0 0 0
  have hnx := growslice_fits (old := 0) (need := n) (bytes := 8) (by omega) (by omega)
  have hrz : ∀ ty, (Builtin.append_ #[24, 3] ty #[.slice none 0 0, .int .i64 (n : Int)]).run Tryz.prog w = .ok (.slice (some ⟨w.heap.size, 0, none⟩) n (grownCap w n 0 3)) (w.drew.alloc (.cells (([] : List Value).toArray ++ Builtin.zeroCells (Value.int .i64 0).cells n ++ Builtin.zeroCells (Value.int .i64 0).cells (grownCap w n 0 3 - n)) 3)) := fun ty => by
   have h := Lib.run_append_grow_zeros w 24 3 ty 3 i0 (.int .i64 0) .i64 .i64 Tryz.underlying24 Tryz.underlying3 hi0 hz0 none 0 0 [] hold n (by omega) (by omega) (by omega) (by omega) (by rw [hb0]; omega) (by rw [Nat.zero_add, hb0]; exact hnx)
   rw [Nat.zero_add] at h
   exact h
  have hG := grownCap_ge w n 0 3
  have hG2 := grownCap_le_maxLen w n 0 3 (by unfold maxLen; omega)
  obtain ⟨G, hGe⟩ := named (grownCap w n 0 3)
  rw [hGe] at hrz hG hG2
  have hG63 : G ≤ 9223372036854775807 := by unfold maxLen at hG2; omega
  have HO : Hid (∀ X : Array Value, X.size = G → OwnI (w.alloc (.cells X 3)).drew w.heap.size (.slice (some ⟨w.heap.size, 0, none⟩) 0 G) []) := Lib.hid fun X hX => ⟨rfl, .inr ⟨w.heap.size, G, X, rfl, Nat.le_refl _, (Blk.new w _ _).drew, Nat.zero_le _, hG2, by rw [hX, Nat.mul_one], rfl⟩⟩
  have HB : Hid (∀ X : Array Value, Below w.heap.size w (w.alloc (.cells X 3)).drew) := Lib.hid fun X => ((Below.refl _ _).alloc (Nat.le_refl _) _).drew
  have h3 : wrap64 (n : Int) = (n : Int) := by unfold wrap64; omega
  have h4 : (n : Int) > 0 := by omega
  clear hGe hG2 hnx hold hsz hi0 hz0 hs0 hb0 h0
  go_enter Tryz.func145, Tryz.ntmps145
  go_wp2_with (at_builtin; refine Lib.wpList_append_run _ rfl _ _ _ _ rfl _ _ rfl rfl _ _ (hrz _) ?_)
  all_goals
   go_ret
   exact ⟨_, rfl, HO.out _ (by simp [size_zeroCells]; omega), HB.out _⟩
theorem arm_catI {ops : Array Oper} {rest : List Oper} {o : Oper} {c : Act} {w : World} {Q : Exit → Act → World → Prop} {base cap m : Nat} {v : Value} {l M : List Int} {p : Option Addr} {S : Nat → Prop} (H : OwnI w base v l) (hM : IntsAt w S p M) (hm : M.length = m)
  (hgd : o.guard = none) (s x : Operand) (ho : o.op = .call { callee := .builtin .append, args := #[s, x], argTypes := #[24, 24] }) (hs : c.eval s = v) (hx : c.eval x = .slice p m cap) (h63 : l.length + m ≤ 4000000) (hbase : base ≤ w.heap.size)
  (K : ∀ v' w', OwnI w' base v' (l ++ M) → w.grownBy w' v.ownBlock → wpList Tryz.prog ops Q rest (c.put o.dst v') w') : wpList Tryz.prog ops Q (o :: rest) c w := by
 obtain ⟨i8, hi8, hz8, hs8, hb8⟩ := int_app
 subst hm
 refine wpList_append_src w hgd s x 24 ho base 3 i8 _ 1 8 Tryz.underlying24 hi8 hz8 hs8 hb8 rfl (by omega) v l.length _ hs H p M.length cap (M.map (Value.int .i64)) hx (by simp) (fun h0 => ?_) (fun u hu => ?_) (by unfold maxLen; omega) (by omega) hbase fun v' w' h1 h2 h3 => K v' w' ?_ h2
 ·obtain ⟨b, off, e, _, _, hc⟩ := hM h0
  refine ⟨_, e, fun j u hu => ?_⟩
  rw [List.getElem?_map] at hu
  have hj : j < M.length := by
   rcases Nat.lt_or_ge j M.length with h | h
   ·exact h
   ·rw [List.getElem?_eq_none h] at hu; cases hu
  rw [List.getElem?_eq_getElem hj] at hu
  injection hu with hu
  rw [add_plain, hc j hj, ← hu, List.getD_eq_getElem?_getD, List.getElem?_eq_getElem hj]
  rfl
 ·obtain ⟨i, _, rfl⟩ := List.mem_map.1 hu
  rfl
 ·unfold OwnI
  rw [List.length_append, List.map_append]
  exact h1
theorem OwnI.grown {w w1 w2 : World} {v : Value} {l : List Int} {n0 : Nat} (h : OwnI w1 n0 v l) (hb : Below n0 w w1) (hs : n0 ≤ w1.heap.size) (hg : w1.grownBy w2 v.ownBlock) : Below n0 w w2 := hb.grown hg hs (fun j hj => by
 rcases h.2 with ⟨h1, _⟩ | ⟨g, cp', cur, h1, h2, _⟩
 ·rw [h1] at hj; cases hj
 ·rw [h1] at hj; simp [Value.ownBlock] at hj; omega)
set_option maxHeartbeats 3200000 in
theorem concat_two (S : Nat → Prop) (fa wa : Option Addr) (fn fc wn wc g : Nat) (F W : List Int) (w : World) (hF : IntsAt w S fa F) (hW : IntsAt w S wa W) (hf : F.length = fn) (hw : W.length = wn) (bf : fn ≤ 10000) (bw : wn ≤ 10000)
  (h0 : w.cell? ⟨g, 0, none⟩ = some (.slice fa fn fc)) (h1 : w.cell? ⟨g, 1, none⟩ = some (.slice wa wn wc)) :
  Calls Tryz.prog 106 #[.slice (some ⟨g, 0, none⟩) 2 2] w fun e w' => ∃ v, e = .returned v ∧ OwnI w' w.heap.size v (F ++ W) ∧ Below w.heap.size w w' := by
 have HF := Lib.hid hF
 have HW := Lib.hid hW
 have HL := Lib.hid (And.intro hf hw)
 have G0 := Lib.hid (And.intro (cell_lt h0) (And.intro h0 h1))
 have HG : Hid (∀ W, Calls Tryz.prog 145 #[.slice none 0 0, .int .i64 ((fn : Int) + (wn : Int))] W fun e w' => ∃ v, e = .returned v ∧ OwnI w' W.heap.size v [] ∧ Below W.heap.size W w') := Lib.hid (fun W => by
  have := grow_nil (fn + wn) W (by omega)
  rwa [show (((fn + wn : Nat)) : Int) = (fn : Int) + (wn : Int) by omega] at this)
 have hn1 : ¬ (fn : Int) < 0 := by omega
 have hn2 : ¬ ((fn + wn : Nat) : Int) < 0 := by omega
 have hn3 : ¬ (fn : Int) + (wn : Int) < 0 := by omega
 have hw1 : wrap64 ((fn : Int) + (wn : Int)) = ((fn + wn : Nat) : Int) := by unfold wrap64; omega
 have hw2 : wrap64 (fn : Int) = (fn : Int) := by unfold wrap64; omega
 clear hF hW hf hw
 go_enter Tryz.func106, Tryz.ntmps106
 go_wp2_with fail
 refine wp_loop_rounds 3 ?_
 rw [rounds_succ]
 go_wp2_with fail
 rw [rounds_succ]
 go_wp2_with fail
 rw [rounds_succ]
 go_wp2_with fail
 refine (HG.out w).mono ?_
 rintro e w1 ⟨v0, rfl, ho, hb⟩
 have O1 := Lib.hid ho
 have B1 := Lib.hid hb
 have c0 := (hb.cell (p := ⟨g, 0, none⟩) G0.out.1).trans h0
 have c1 := (hb.cell (p := ⟨g, 1, none⟩) G0.out.1).trans h1
 have HF1 := Lib.hid (HF.out.below hb)
 clear ho hb h0 h1 HG
 obtain ⟨n0, hn0⟩ := named (w.heap.size)
 rw [hn0] at O1 B1
 have HN0 := Lib.hid hn0
 clear hn0
 go_wp2_with fail
 refine wp_loop_rounds 3 ?_
 rw [rounds_succ]
 go_wp2_with (first | (refine arm_catI O1.out HF1.out HL.out.1 rfl _ _ rfl rfl rfl (by simp; omega) (by rw [← HN0.out]; exact B1.out.size) ?_; intro v1 w2 ho hg))
 have O2 : Hid (OwnI w2 n0 v1 F) := Lib.hid ho
 have B2 : Hid (Below n0 w w2) := Lib.hid (O1.out.grown B1.out (by rw [← HN0.out]; exact B1.out.size) hg)
 have HW2 : Hid (IntsAt w2 S wa W) := Lib.hid (HW.out.below (by rw [HN0.out]; exact B2.out))
 have c1 : w2.cell? ⟨g, 1, none⟩ = some (.slice wa wn wc) := (B2.out.cell (p := ⟨g, 1, none⟩) (by rw [← HN0.out]; exact G0.out.1)).trans G0.out.2.2
 clear ho hg O1 HF1 c0 B1
 rw [rounds_succ]
 go_wp2_with (first | (refine arm_catI O2.out HW2.out HL.out.2 rfl _ _ rfl rfl rfl (by have := HL.out; omega) (by rw [← HN0.out]; exact B2.out.size) ?_; intro v2 w3 ho hg))
 have O3 := Lib.hid ho
 have B3 : Hid (Below n0 w w3) := Lib.hid (O2.out.grown B2.out (by rw [← HN0.out]; exact B2.out.size) hg)
 clear ho hg O2 HW2 B2 c1
 rw [rounds_succ]
 go_wp2_with fail
 go_ret
 exact ⟨_, rfl, by rw [HN0.out]; exact O3.out, by rw [HN0.out]; exact B3.out⟩
end
section
set_option maxRecDepth 100000
open Go.RowKit
theorem info24 : (Tryz.prog.info? 30).map (·.size) = some 20 := by kernel_rfl
theorem refCheck_any (c : Nat → Int) (w : World) :
  CallB 10 #[.agg (cellsOf c)] w (.int .i64 (chk c)) := by
 unfold cellsOf
 go_enter Tryz.func10, Tryz.ntmps10
 go_wp2
 go_loopw [3] (fun v wr => ∃ k : Nat, k ≤ 20 ∧ v = .int .i64 ((k : Int) + 1) ∧ Before c k ∧ Blk wr w.heap.size 30 (cellsOf c) ∧ Below w.heap.size w wr) (fun v _ => (21 - intOf v).toNat)
 case atStart => exact ⟨0, by omega, rfl, before_zero c, Blk.new _ _ _, (Below.refl _ _).alloc (Nat.le_refl _) _⟩
 case round =>
  obtain ⟨k, hk, rfl, hbf, hb, hbel⟩ := hrel
  have hlt := hb.lt
  by_cases h20 : k < 20
  ·cases hr : rightB c k with
   | false =>
    have R : Hid (∀ w', _) := Lib.hid (fun w' => right_any c k h20 w')
    rw [hr] at R
    have H := Lib.hid (chk_at h20 hbf hr)
    clear hr
    go_wp2_with (first
     | (refine wlr 30 w.heap.size hb Tryz.underlying30 info24 ?_)
     | (go_at_call 28; refine (R.out _).mono ?_; rintro e w1 ⟨rfl, hb1⟩))
    go_ret
    exact ⟨ret_int H.out.symm, below_more hbel hb1 (by omega)⟩
   | true =>
    have R : Hid (∀ w', _) := Lib.hid (fun w' => right_any c k h20 w')
    rw [hr] at R
    have H := Lib.hid (before_succ hbf hr)
    clear hr
    go_wp2_with (first
     | (refine wlr 30 w.heap.size hb Tryz.underlying30 info24 ?_)
     | (go_at_call 28; refine (R.out _).mono ?_; rintro e w1 ⟨rfl, hb1⟩))
    go_roundw
    case rel => exact ⟨k + 1, by omega, by go_num, H.out, hb.below hb1 hlt, below_more hbel hb1 (by omega)⟩
    case measure => simp [intOf]; omega
  ·obtain rfl : k = 20 := by omega
   have H := Lib.hid (chk_none hbf)
   go_wp2
   go_ret
   exact ⟨ret_int H.out.symm, hbel⟩
end
section
open Go Go.RowKit
set_option maxRecDepth 100000
def laneL (F V : List Int) (c : Int) : List Int := if c = 0 then F else if c = 1 then V else []
def aheadL (F V : List Int) (c : Int) : List Int := if c = 0 then F else if c = 1 then F ++ V else []
def pushF (n : Nat) (F : List Int) (c x : Int) : List Int := if c = 0 ∧ F.length < n then F ++ [x] else F
def pushV (n : Nat) (V : List Int) (c x : Int) : List Int := if c = 1 ∧ V.length < n then V ++ [x] else V
def hdI : List Int → List Int → Int
 | x :: _, _ => x
 | [], x :: _ => x
 | [], [] => 0
def hdC : List Int → List Int → Int
 | _ :: _, _ => 0
 | [], _ :: _ => 1
 | [], [] => 0
def hdB : List Int → List Int → Bool
 | _ :: _, _ => true
 | [], _ :: _ => true
 | [], [] => false
def popF : List Int → List Int
 | _ :: F => F
 | [] => []
def popV : List Int → List Int → List Int
 | _ :: _, V => V
 | [], _ :: V => V
 | [], [] => []
def LnAt (w : World) (b f v : Nat) (gf gv : Option Nat) (n : Nat) (F V : List Int) : Prop :=
 Blk w b 188 #[.pointer (some ⟨f, 0, none⟩), .pointer (some ⟨v, 0, none⟩)] ∧
 RingAt 148 3 1 w f gf n F.length (F.map (Value.int .i64)) ∧ RingAt 148 3 1 w v gv n V.length (V.map (Value.int .i64)) ∧
 (∀ i, Foot f gf i → ¬ Foot v gv i) ∧ (¬ Foot f gf b) ∧ (¬ Foot v gv b)
def Ln (w : World) (b : Nat) (S : Nat → Prop) (n : Nat) (F V : List Int) : Prop :=
 ∃ f v gf gv, LnAt w b f v gf gv n F V ∧ ∀ i, S i ↔ (i = b ∨ Foot f gf i ∨ Foot v gv i)
def Goes (S S' : Nat → Prop) (w w' : World) : Prop := Kept S w w' ∧ ∀ i, S' i → S i ∨ w.heap.size ≤ i
section
variable {w w' : World} {S S' T : Nat → Prop} {b f v n : Nat} {gf gv g' : Option Nat} {F V : List Int}
theorem Ln.kept (h : Ln w b S n F V) (k : Kept T w w') (hT : ∀ i, S i → ¬ T i) : Ln w' b S n F V := by
 obtain ⟨f, v, gf, gv, ⟨h1, h2, h3, h4⟩, h5⟩ := h
 exact ⟨f, v, gf, gv, ⟨h1.kept k (hT _ ((h5 _).2 (.inl rfl))), h2.kept k (fun i hi => hT i ((h5 i).2 (.inr (.inl hi)))), h3.kept k (fun i hi => hT i ((h5 i).2 (.inr (.inr hi)))), h4⟩, h5⟩
theorem Ln.lt (h : Ln w b S n F V) : ∀ i, S i → i < w.heap.size := by
 obtain ⟨f, v, gf, gv, ⟨h1, h2, h3, h4⟩, h5⟩ := h
 intro i hi
 rcases (h5 i).1 hi with rfl | hi | hi
 ·exact h1.lt
 ·exact h2.lt i hi
 ·exact h3.lt i hi
theorem Ln.drewN (h : Ln w b S n F V) (m : Nat) : Ln (w.drewN m) b S n F V := h
theorem Ln.below (h : Ln w b S n F V) (hb : Below w.heap.size w w') : Ln w' b S n F V := h.kept (Kept.of_below (S := fun _ => False) hb) (fun _ _ h => h)
theorem Ln.size (h : Ln w b S n F V) : F.length ≤ n ∧ V.length ≤ n ∧ n ≤ 1048576 := by
 obtain ⟨f, v, gf, gv, ⟨h1, h2, h3, h4⟩, h5⟩ := h
 exact ⟨h2.size_le.1, h3.size_le.1, h2.size_le.2.2⟩
theorem LnAt.cells (h : LnAt w b f v gf gv n F V) : w.cell? ⟨b, 0, none⟩ = some (.pointer (some ⟨f, 0, none⟩)) ∧ w.cell? ⟨b, 1, none⟩ = some (.pointer (some ⟨v, 0, none⟩)) := ⟨h.1.cell 0, h.1.cell 1⟩
theorem Goes.refl (S : Nat → Prop) (w : World) : Goes S S w w := ⟨Kept.refl _ _, fun _ h => .inl h⟩
theorem LnAt.setF {F' : List Int} (h : LnAt w b f v gf gv n F V) (hr : RingAt 148 3 1 w' f g' n F'.length (F'.map (Value.int .i64))) (hm : Moved w gf g') (hk : Kept (Foot f gf) w w') :
  ∃ S', Ln w' b S' n F' V ∧ Goes (fun i => i = b ∨ Foot f gf i ∨ Foot v gv i) S' w w' := by
 obtain ⟨h1, h2, h3, h4, h5, h6⟩ := h
 have new : ∀ i, Foot f g' i → Foot f gf i ∨ w.heap.size ≤ i := by
  rintro i (rfl | hi)
  ·exact .inl (.inl rfl)
  ·exact (hm i hi.symm).imp (fun e => .inr e.symm) id
 refine ⟨_, ⟨f, v, g', gv, ⟨h1.kept hk h5, hr, h3.kept hk (fun i hi hf => h4 i hf hi), ?_, ?_, h6⟩, fun i => Iff.rfl⟩, hk.more (fun i _ hi => .inr (.inl hi)), ?_⟩
 ·intro i hi hv
  rcases new i hi with h | h
  ·exact h4 i h hv
  ·have := h3.lt i hv; omega
 ·intro hb
  rcases new b hb with h | h
  ·exact h5 h
  ·have := h1.lt; omega
 ·rintro i (rfl | hi | hi)
  ·exact .inl (.inl rfl)
  ·exact (new i hi).imp (fun h => .inr (.inl h)) id
  ·exact .inl (.inr (.inr hi))
theorem LnAt.setV {V' : List Int} (h : LnAt w b f v gf gv n F V) (hr : RingAt 148 3 1 w' v g' n V'.length (V'.map (Value.int .i64))) (hm : Moved w gv g') (hk : Kept (Foot v gv) w w') :
  ∃ S', Ln w' b S' n F V' ∧ Goes (fun i => i = b ∨ Foot f gf i ∨ Foot v gv i) S' w w' := by
 obtain ⟨h1, h2, h3, h4, h5, h6⟩ := h
 have new : ∀ i, Foot v g' i → Foot v gv i ∨ w.heap.size ≤ i := by
  rintro i (rfl | hi)
  ·exact .inl (.inl rfl)
  ·exact (hm i hi.symm).imp (fun e => .inr e.symm) id
 refine ⟨_, ⟨f, v, gf, g', ⟨h1.kept hk h6, h2.kept hk (fun i hi hf => h4 i hi hf), hr, ?_, h5, ?_⟩, fun i => Iff.rfl⟩, hk.more (fun i _ hi => .inr (.inr hi)), ?_⟩
 ·intro i hi hv
  rcases new i hv with h | h
  ·exact h4 i hi h
  ·have := h2.lt i hi; omega
 ·intro hb
  rcases new b hb with h | h
  ·exact h6 h
  ·have := h1.lt; omega
 ·rintro i (rfl | hi | hi)
  ·exact .inl (.inl rfl)
  ·exact .inl (.inr (.inl hi))
  ·exact (new i hi).imp (fun h => .inr (.inr h)) id
theorem Goes.iff {S2 : Nat → Prop} (h : Goes S S' w w') (hS : ∀ i, S2 i ↔ S i) : Goes S2 S' w w' := ⟨h.1.more fun i _ hi => (hS i).2 hi, fun i hi => (h.2 i hi).imp (hS i).2 id⟩
theorem kept_set (w : World) (b o : Nat) (u : Value) : Kept (fun i => i = b) w (w.setCell ⟨b, o, none⟩ u) := Kept.setCell (S := fun i => i = b) (Kept.refl _ _) (.inl rfl) _
end
end
section
set_option maxRecDepth 100000
open Go Go.RowKit
theorem has_yes (b : Nat) (c : Int) (w : World) (h : c = 0 ∨ c = 1) : CallW 142 #[.pointer (some ⟨b, 0, none⟩), .int .i64 c] w (.bool true) := by
 rcases h with rfl | rfl
 ·go_enter Tryz.func142, Tryz.ntmps142
  go_wp2
  go_ret
  exact ⟨rfl, rfl⟩
 ·go_enter Tryz.func142, Tryz.ntmps142
  go_wp2
  go_ret
  exact ⟨rfl, rfl⟩
theorem has_no (b : Nat) (c : Int) (w : World) (h : c < 0 ∨ 2 ≤ c) : CallW 142 #[.pointer (some ⟨b, 0, none⟩), .int .i64 c] w (.bool false) := by
 rcases h with h | h
 ·have h1 : ¬ 0 ≤ c := by omega
  go_enter Tryz.func142, Tryz.ntmps142
  go_wp2
  go_ret
  exact ⟨rfl, rfl⟩
 ·have h1 : 0 ≤ c := by omega
  have h2 : ¬ c < 2 := by omega
  go_enter Tryz.func142, Tryz.ntmps142
  go_wp2
  go_ret
  exact ⟨rfl, rfl⟩
theorem queue_no (b : Nat) (c : Int) (w : World) (h : c < 0 ∨ 2 ≤ c) : CallW 94 #[.pointer (some ⟨b, 0, none⟩), .int .i64 c] w (.pointer none) := by
 have H := Lib.hid h
 clear h
 go_enter Tryz.func94, Tryz.ntmps94
 go_wp2_with fail
 refine (has_no _ _ _ H.out).mono ?_
 rintro e w' ⟨rfl, rfl⟩
 go_wp2
 go_ret
 exact ⟨rfl, rfl⟩
theorem queue_zero (b f : Nat) (w : World) (h : w.cell? ⟨b, 0, none⟩ = some (.pointer (some ⟨f, 0, none⟩))) :
  CallW 94 #[.pointer (some ⟨b, 0, none⟩), .int .i64 0] w (.pointer (some ⟨f, 0, none⟩)) := by
 go_enter Tryz.func94, Tryz.ntmps94
 go_wp2_with fail
 refine (has_yes _ _ _ (.inl rfl)).mono ?_
 rintro e w' ⟨rfl, rfl⟩
 go_wp2
 go_ret
 exact ⟨rfl, rfl⟩
theorem queue_one (b v : Nat) (w : World) (h : w.cell? ⟨b, 1, none⟩ = some (.pointer (some ⟨v, 0, none⟩))) :
  CallW 94 #[.pointer (some ⟨b, 0, none⟩), .int .i64 1] w (.pointer (some ⟨v, 0, none⟩)) := by
 go_enter Tryz.func94, Tryz.ntmps94
 go_wp2_with fail
 refine (has_yes _ _ _ (.inr rfl)).mono ?_
 rintro e w' ⟨rfl, rfl⟩
 go_wp2
 go_ret
 exact ⟨rfl, rfl⟩
theorem new_some_12 (n : Nat) (w : World) (h1 : 1 ≤ n) (h2 : n ≤ 4096) : Calls Tryz.prog 78 #[.int .i64 n] w fun e w' => e = .returned (.pointer (some ⟨w.heap.size, 0, none⟩)) ∧
  (∃ S, Ln w' w.heap.size S n [] [] ∧ ∀ i, S i → w.heap.size ≤ i) ∧ Below w.heap.size w w' := by
 have h0 : ¬ (n : Int) < 1 := by omega
 have h3 : ¬ (4096 : Int) < (n : Int) := by omega
 have H := Lib.hid (fun W => ri_new_some n W h1 (by omega))
 have HN := Lib.hid (show 1 ≤ n ∧ n ≤ 1048576 by omega)
 go_enter Tryz.func78, Tryz.ntmps78
 go_wp2_with fail
 have B0 : Hid (Blk (w.alloc (.cells #[.pointer none, .pointer none] 188)) w.heap.size 188 #[.pointer none, .pointer none]) := Lib.hid (Blk.new _ _ _)
 have K0 : Hid (Below w.heap.size w (w.alloc (.cells #[.pointer none, .pointer none] 188)) ∧ (w.alloc (.cells #[.pointer none, .pointer none] 188)).heap.size = w.heap.size + 1) := Lib.hid ⟨(Below.refl _ _).alloc (Nat.le_refl _) _, by simp⟩
 generalize w.alloc (.cells #[.pointer none, .pointer none] 188) = w1 at *
 obtain ⟨b, hb⟩ := named (w.heap.size)
 have HB := Lib.hid hb
 rw [hb] at B0 K0 ⊢
 clear hb
 refine wp_loop_rounds 3 ?_
 rw [rounds_succ]
 go_wp2_with fail
 refine (H.out _).mono ?_
 rintro e w2 ⟨rfl, hw2⟩
 have R2 : Hid (RingAt 148 3 1 w2 w1.heap.size none n 0 []) := by rw [← hw2]; exact Lib.hid (ringAt_new w1 _ _ 1 n HN.out.1 HN.out.2)
 have B2 : Hid (Blk w2 b 188 #[.pointer none, .pointer none]) := by rw [← hw2]; exact Lib.hid (B0.out.alloc _)
 have K2 : Hid (Kept (fun _ => False) w1 w2) := by rw [← hw2]; exact Lib.hid ((Kept.refl _ _).alloc _)
 have x1 := B2.out.frozen 0
 have x2 := cel B2.out 0
 clear hw2
 go_wp2_with fail
 have B3 : Hid (Blk (w2.setCell ⟨b, 0, none⟩ (.pointer (some ⟨w1.heap.size, 0, none⟩))) b 188 #[.pointer (some ⟨w1.heap.size, 0, none⟩), .pointer none]) := Lib.hid (B2.out.set_ 0 _)
 obtain ⟨f, hf⟩ := named (w1.heap.size)
 have HF := Lib.hid hf
 rw [hf] at B3 R2 ⊢
 have hfb : f = b + 1 := by rw [← hf]; exact K0.out.2
 have R3 : Hid (RingAt 148 3 1 (w2.setCell ⟨b, 0, none⟩ (.pointer (some ⟨f, 0, none⟩))) f none n 0 []) := Lib.hid (R2.out.kept (kept_set _ _ _ _) (fun i hi => by
  rcases hi with rfl | hi
  ·omega
  ·cases hi))
 have K3 : Hid (Below b w (w2.setCell ⟨b, 0, none⟩ (.pointer (some ⟨f, 0, none⟩))) ∧ f < (w2.setCell ⟨b, 0, none⟩ (.pointer (some ⟨f, 0, none⟩))).heap.size) := Lib.hid ⟨(Kept.below K0.out.1 (S := fun i => i = b) ((K2.out.more (T := fun i => i = b) (fun _ _ h => h.elim)).trans (kept_set _ _ _ _) (fun _ _ h => h)) (fun i h => by omega) (by rw [K0.out.2]; omega)), R3.out.lt _ (.inl rfl)⟩
 have HFB := Lib.hid hfb
 clear B2 R2 K2 x1 x2 hf hfb B0 K0
 generalize w2.setCell ⟨b, 0, none⟩ (.pointer (some ⟨f, 0, none⟩)) = w3 at *
 rw [rounds_succ]
 go_wp2_with fail
 refine (H.out _).mono ?_
 rintro e w4 ⟨rfl, hw4⟩
 have R4 : Hid (RingAt 148 3 1 w4 w3.heap.size none n 0 []) := by rw [← hw4]; exact Lib.hid (ringAt_new w3 _ _ 1 n HN.out.1 HN.out.2)
 have Q4 : Hid (RingAt 148 3 1 w4 f none n 0 []) := by rw [← hw4]; exact Lib.hid (R3.out.kept (S := fun _ => False) ((Kept.refl _ _).alloc _) (fun _ _ h => h))
 have B4 : Hid (Blk w4 b 188 #[.pointer (some ⟨f, 0, none⟩), .pointer none]) := by rw [← hw4]; exact Lib.hid (B3.out.alloc _)
 have K4 : Hid (Below b w w4) := by rw [← hw4]; exact Lib.hid (K3.out.1.alloc (by have := K3.out.2; have := HFB.out; omega) _)
 have x1 := B4.out.frozen 1
 have x2 := cel B4.out 1
 clear hw4
 go_wp2_with fail
 rw [rounds_succ]
 go_wp2_with fail
 go_ret
 obtain ⟨v, hv⟩ := named (w3.heap.size)
 have hvf : f < v := by rw [← hv]; exact K3.out.2
 have hfb := HFB.out
 rw [hv] at R4 ⊢
 have hn : ∀ x i, Foot x none i → i = x := fun x i h => by
  rcases h with rfl | h
  ·rfl
  ·cases h
 have hk : Kept (fun i => i = b) w4 (w4.setCell ⟨b, 1, none⟩ (.pointer (some ⟨v, 0, none⟩))) := kept_set _ _ _ _
 refine ⟨by rw [HB.out]; rfl, ⟨_, ⟨f, v, none, none, ⟨by rw [HB.out]; exact B4.out.set_ 1 _, Q4.out.kept hk (fun i hi => by rw [hn _ _ hi]; omega), R4.out.kept hk (fun i hi => by rw [hn _ _ hi]; omega), fun i h1 h2 => by have := hn _ _ h1; have := hn _ _ h2; omega, fun h => by have := hn _ _ h; have := HB.out; omega, fun h => by have := hn _ _ h; have := HB.out; omega⟩, fun i => Iff.rfl⟩, ?_⟩, ?_⟩
 ·rintro i (rfl | h | h)
  ·omega
  ·have := hn _ _ h; have := HB.out; omega
  ·have := hn _ _ h; have := HB.out; omega
 ·rw [HB.out]
  exact Kept.below K4.out (kept_set _ _ _ _) (fun i h => by omega) (Nat.le_of_lt B4.out.lt)
theorem next_forced (b f nf : Nat) (w : World) (h0 : w.cell? ⟨b, 0, none⟩ = some (.pointer (some ⟨f, 0, none⟩))) (h2 : w.cell? ⟨f, 3, none⟩ = some (.int .i64 nf)) (hn : 0 < nf) :
  CallD 285 #[.pointer (some ⟨b, 0, none⟩)] w (.int .i64 0) := by
 have HL := Lib.hid (fun m => ri_len_any f nf (w.drewN m) h2)
 go_enter Tryz.func285, Tryz.ntmps285
 go_wp2
 go_step3
 go_wp2
 go_step3
 go_wp2
 refine wp_loop_rounds 1 ?_
 rw [rounds_succ]
 go_wp2
 go_quiet (fail)
 go_wp2_with fail
 refine (HL.out _).mono ?_
 rintro e w' ⟨rfl, rfl⟩
 go_wp2
 try rw [Exit.noGoto_ret]
 go_ret
 exact ⟨rfl, _, rfl⟩
theorem next_second (b f v nv : Nat) (w : World) (h0 : w.cell? ⟨b, 0, none⟩ = some (.pointer (some ⟨f, 0, none⟩))) (h1 : w.cell? ⟨b, 1, none⟩ = some (.pointer (some ⟨v, 0, none⟩))) (h2 : w.cell? ⟨f, 3, none⟩ = some (.int .i64 0)) (h3 : w.cell? ⟨v, 3, none⟩ = some (.int .i64 nv)) (hn : 0 < nv) :
  CallD 285 #[.pointer (some ⟨b, 0, none⟩)] w (.int .i64 1) := by
 have HL := Lib.hid (fun m => ri_len_any f 0 (w.drewN m) h2)
 have HV := Lib.hid (fun m => ri_len_any v nv (w.drewN m) h3)
 go_enter Tryz.func285, Tryz.ntmps285
 go_wp2
 go_step3
 go_wp2
 go_step3
 go_wp2
 refine wp_loop_rounds 2 ?_
 rw [rounds_succ]
 go_wp2
 go_quiet (fail)
 go_wp2_with fail
 refine (HL.out _).mono ?_
 rintro e w' ⟨rfl, rfl⟩
 go_wp2
 rw [rounds_succ]
 go_wp2
 go_quiet (fail)
 go_wp2_with fail
 refine (HV.out _).mono ?_
 rintro e w' ⟨rfl, rfl⟩
 go_wp2
 try rw [Exit.noGoto_ret]
 go_ret
 exact ⟨rfl, _, rfl⟩
theorem next_none (b f v : Nat) (w : World) (h0 : w.cell? ⟨b, 0, none⟩ = some (.pointer (some ⟨f, 0, none⟩))) (h1 : w.cell? ⟨b, 1, none⟩ = some (.pointer (some ⟨v, 0, none⟩))) (h2 : w.cell? ⟨f, 3, none⟩ = some (.int .i64 0)) (h3 : w.cell? ⟨v, 3, none⟩ = some (.int .i64 0)) :
  CallD 285 #[.pointer (some ⟨b, 0, none⟩)] w (.int .i64 0) := by
 have HL := Lib.hid (fun m => ri_len_any f 0 (w.drewN m) h2)
 have HV := Lib.hid (fun m => ri_len_any v 0 (w.drewN m) h3)
 go_enter Tryz.func285, Tryz.ntmps285
 go_wp2
 go_step3
 go_wp2
 go_step3
 go_wp2
 refine wp_loop_rounds 3 ?_
 rw [rounds_succ]
 go_wp2
 go_quiet (fail)
 go_wp2_with fail
 refine (HL.out _).mono ?_
 rintro e w' ⟨rfl, rfl⟩
 go_wp2
 rw [rounds_succ]
 go_wp2
 go_quiet (fail)
 go_wp2_with fail
 refine (HV.out _).mono ?_
 rintro e w' ⟨rfl, rfl⟩
 go_wp2
 rw [rounds_succ]
 go_wp2
 try rw [Exit.noGoto_ret]
 go_ret
 exact ⟨rfl, _, rfl⟩
section
variable {w : World} {b n : Nat} {S : Nat → Prop} {F V : List Int}
theorem next_any_12 (h : Ln w b S n F V) : CallD 285 #[.pointer (some ⟨b, 0, none⟩)] w (.int .i64 (hdC F V)) := by
 obtain ⟨f, v, gf, gv, h1, _⟩ := h
 have x := h1.cells
 have y := h1.2.1.cells.2
 have z := h1.2.2.1.cells.2
 rcases F with _ | ⟨x0, F⟩
 ·rcases V with _ | ⟨y0, V⟩
  ·exact next_none b f v w x.1 x.2 y z
  ·exact next_second b f v _ w x.1 x.2 y z (by simp)
 ·exact next_forced b f _ w x.1 y (by simp)
theorem queue_any (c : Int) (h : Ln w b S n F V) : Calls Tryz.prog 94 #[.pointer (some ⟨b, 0, none⟩), .int .i64 c] w fun e w' => w = w' ∧
  ((e = .returned (.pointer none) ∧ c ≠ 0 ∧ c ≠ 1) ∨ ∃ r g, e = .returned (.pointer (some ⟨r, 0, none⟩)) ∧ (c = 0 ∨ c = 1) ∧ RingAt 148 3 1 w r g n (laneL F V c).length ((laneL F V c).map (Value.int .i64))) := by
 obtain ⟨f, v, gf, gv, h1, _⟩ := h
 by_cases c0 : c = 0
 ·subst c0
  exact (queue_zero b f w h1.cells.1).mono fun e w' ⟨he, hw⟩ => ⟨hw, .inr ⟨f, gf, he, .inl rfl, h1.2.1⟩⟩
 ·by_cases c1 : c = 1
  ·subst c1
   exact (queue_one b v w h1.cells.2).mono fun e w' ⟨he, hw⟩ => ⟨hw, .inr ⟨v, gv, he, .inr rfl, h1.2.2.1⟩⟩
  ·exact (queue_no b c w (by omega)).mono fun e w' ⟨he, hw⟩ => ⟨hw, .inl ⟨he, c0, c1⟩⟩
theorem laneL_none {c : Int} (h0 : c ≠ 0) (h1 : c ≠ 1) : laneL F V c = [] := by rw [laneL, if_neg h0, if_neg h1]
def ListPost (w : World) (L : List Int) (e : Ending) (w' : World) : Prop := ∃ v, e = .returned v ∧ w'.ownsRow w.heap.size 3 1 v L.length (L.map (Value.int .i64)) ∧ Below w.heap.size w w'
end
end
section
open Go Go.RowKit
set_option maxRecDepth 100000
section
variable {w : World} {b n r f v : Nat} {S : Nat → Prop} {F V L : List Int} {g gf gv : Option Nat}
def LnPost (w : World) (b : Nat) (S : Nat → Prop) (n : Nat) (F V : List Int) (w' : World) : Prop := ∃ S', Ln w' b S' n F V ∧ Goes S S' w w'
theorem LnPost.same (h : Ln w b S n F V) : LnPost w b S n F V w := ⟨S, h, Goes.refl _ _⟩
theorem queue_head (h : Ln w b S n F V) : Calls Tryz.prog 94 #[.pointer (some ⟨b, 0, none⟩), .int .i64 (hdC F V)] w fun e w' => w = w' ∧ ∃ r : Nat, e = .returned (.pointer (some ⟨r, 0, none⟩)) ∧
  Hid (CallD 270 #[.pointer (some ⟨r, 0, none⟩), .int .i64 0] w (.tuple #[.int .i64 (hdI F V), .bool (hdB F V)])) ∧
  Hid (Calls Tryz.prog 271 #[.pointer (some ⟨r, 0, none⟩)] w fun e w' => (∃ v, e = .returned v) ∧ LnPost w b S n (popF F) (popV F V) w') := by
 have h' := h
 obtain ⟨f, v, gf, gv, h1, h2⟩ := h
 rcases F with _ | ⟨x, F⟩
 ·rcases V with _ | ⟨y, V⟩
  ·refine (queue_zero b f w h1.cells.1).mono ?_
   rintro e w' ⟨he, hw⟩
   refine ⟨hw, f, he, Lib.hid ((ri_peek_out f 0 0 w h1.2.1.cells.2 (by omega)).mono fun e w' ⟨a, b⟩ => ⟨a, 0, b.symm⟩), Lib.hid ((ri_pop_empty f w h1.2.1.cells.2).mono fun e w' ⟨a, b⟩ => ⟨⟨_, a⟩, b ▸ LnPost.same h'⟩)⟩
  ·refine (queue_one b v w h1.cells.2).mono ?_
   rintro e w' ⟨he, hw⟩
   refine ⟨hw, v, he, Lib.hid (ri_peek_at v n _ 0 gv _ _ w h1.2.2.1 rfl), Lib.hid ((ri_pop_at v n V.length gv (V.map (Value.int .i64)) (.int .i64 y) w h1.2.2.1).mono fun e w' ⟨a, b1, b2⟩ => ⟨⟨_, a⟩, ?_⟩)⟩
   obtain ⟨S', c1, c2⟩ := h1.setV b1 (fun i e => .inl e) b2
   exact ⟨S', c1, c2.iff h2⟩
 ·refine (queue_zero b f w h1.cells.1).mono ?_
  rintro e w' ⟨he, hw⟩
  refine ⟨hw, f, he, Lib.hid (ri_peek_at f n _ 0 gf _ _ w h1.2.1 rfl), Lib.hid ((ri_pop_at f n F.length gf (F.map (Value.int .i64)) (.int .i64 x) w h1.2.1).mono fun e w' ⟨a, b1, b2⟩ => ⟨⟨_, a⟩, ?_⟩)⟩
  obtain ⟨S', c1, c2⟩ := h1.setF b1 (fun i e => .inl e) b2
  exact ⟨S', c1, c2.iff h2⟩
theorem head_any (h : Ln w b S n F V) : CallD 265 #[.pointer (some ⟨b, 0, none⟩)] w (.tuple #[.int .i64 (hdI F V), .int .i64 (hdC F V), .bool (hdB F V)]) := by
 have HL := Lib.hid h
 clear h
 go_enter Tryz.func265, Tryz.ntmps265
 go_wp2_with fail
 refine (next_any_12 HL.out).mono ?_
 rintro e w' ⟨rfl, m, rfl⟩
 have HL1 := Lib.hid (HL.out.drewN m)
 go_wp2_with fail
 refine (queue_head HL1.out).mono ?_
 rintro e w' ⟨rfl, r, rfl, HP, -⟩
 clear HL1 HL
 go_wp2_with fail
 refine HP.out.mono ?_
 rintro e w' ⟨rfl, q, rfl⟩
 clear HP
 go_wp2
 go_ret3
 exact ⟨rfl, m + q, rfl⟩
theorem pop_any (h : Ln w b S n F V) : Calls Tryz.prog 284 #[.pointer (some ⟨b, 0, none⟩)] w fun e w' => e = .returned (.tuple #[.int .i64 (hdI F V), .int .i64 (hdC F V), .bool (hdB F V)]) ∧ LnPost w b S n (popF F) (popV F V) w' := by
 have HL := Lib.hid h
 clear h
 go_enter Tryz.func284, Tryz.ntmps284
 go_wp2_with fail
 refine (head_any HL.out).mono ?_
 rintro e w' ⟨rfl, m, rfl⟩
 have HL1 := Lib.hid (HL.out.drewN m)
 go_wp2_with fail
 refine (queue_head HL1.out).mono ?_
 rintro e w' ⟨rfl, r, rfl, -, HP⟩
 clear HL1 HL
 go_wp2_with fail
 refine HP.out.mono ?_
 rintro e w' ⟨⟨u, rfl⟩, S', hl, hg⟩
 have HE : Hid (LnPost w b S n (popF F) (popV F V) w') := Lib.hid ⟨S', hl, ⟨((Kept.refl _ w).drewN m).trans hg.1 (fun _ _ h => h), hg.2⟩⟩
 clear HP hl hg
 go_wp2
 go_ret3
 exact ⟨rfl, HE.out⟩
end
end
section
set_option maxRecDepth 100000
open Go Go.RowKit
section
variable {w : World} {b n : Nat} {S : Nat → Prop} {F V : List Int}
theorem owns_blk {w : World} {g base : Nat} {L : List Int} (h : Blk w g 3 (L.map (Value.int .i64)).toArray) (hb : base ≤ g) (hl : L.length ≤ 9223372036854775807) : w.ownsRow base 3 1 (.slice (some ⟨g, 0, none⟩) L.length L.length) L.length (L.map (Value.int .i64)) :=
 ⟨by simp, .inr ⟨g, L.length, _, rfl, hb, h, Nat.le_refl _, by unfold maxLen; omega, by simp, List.take_of_length_le (by simp)⟩⟩
theorem ring_all {r size : Nat} {g : Option Nat} {L : List Int} (h : RingAt 148 3 1 w r g size L.length (L.map (Value.int .i64))) :
  Calls Tryz.prog 45 #[.pointer (some ⟨r, 0, none⟩)] w (ListPost w L) := by
 refine (ri_all_any r size L.length g _ w h).mono ?_
 rintro e w' ⟨he, hb, hw⟩
 exact ⟨_, he, owns_blk hb (Nat.le_refl _) (by have := h.size_le; omega), hw⟩
theorem all_any_12 (c : Int) (h : Ln w b S n F V) : Calls Tryz.prog 46 #[.pointer (some ⟨b, 0, none⟩), .int .i64 c] w (ListPost w (laneL F V c)) := by
 have HQ := Lib.hid (queue_any c h)
 clear h
 go_enter Tryz.func46, Tryz.ntmps46
 go_wp2_with fail
 refine HQ.out.mono ?_
 rintro e w' ⟨rfl, ⟨rfl, h0, h1⟩ | ⟨r, g, rfl, hc, hr⟩⟩
 ·have HE := Lib.hid (laneL_none (F := F) (V := V) h0 h1)
  clear h0 h1
  go_wp2_with fail
  refine (ri_all_nil _).mono ?_
  rintro e w' ⟨rfl, rfl⟩
  go_wp2
  go_ret
  exact ⟨_, rfl, by rw [HE.out]; exact World.ownsRow_nil _ _ _ _, Below.refl _ _⟩
 ·have HR := Lib.hid (ring_all hr)
  clear hr hc
  go_wp2_with fail
  refine HR.out.mono ?_
  rintro e w' ⟨v, rfl, ho, hb⟩
  have HO := Lib.hid ho
  have HB := Lib.hid hb
  clear ho hb
  go_wp2
  go_ret
  exact ⟨_, rfl, HO.out, HB.out⟩
end
end
section
set_option maxRecDepth 100000
def asg (om : Int → Int) : List Int → List Int → Int → List (Int × Int) × List Int × List Int × Int
 | [], [], B => ([], [], [], B)
 | [], x :: V, B => if om x ≤ B then ((x, 1) :: (asg om [] V (B - om x)).1, (asg om [] V (B - om x)).2) else ([], [], x :: V, B)
 | x :: F, V, B => if om x ≤ B then ((x, 0) :: (asg om F V (B - om x)).1, (asg om F V (B - om x)).2) else ([], x :: F, V, B)
termination_by F V => F.length + V.length
section
variable {om : Int → Int} {F V : List Int} {B : Int}
theorem asg_none (h : hdB F V = false) : asg om F V B = ([], F, V, B) ∧ F = [] ∧ V = [] := by
 rcases F with _ | ⟨x, F⟩
 ·rcases V with _ | ⟨y, V⟩
  ·exact ⟨by rw [asg], rfl, rfl⟩
  ·cases h
 ·cases h
theorem asg_wait (h : hdB F V = true) (hx : ¬ om (hdI F V) ≤ B) : asg om F V B = ([], F, V, B) := by
 rcases F with _ | ⟨x, F⟩
 ·rcases V with _ | ⟨y, V⟩
  ·cases h
  ·simp only [hdI] at hx; rw [asg, if_neg hx]
 ·simp only [hdI] at hx; rw [asg, if_neg hx]
theorem asg_next (h : hdB F V = true) (hx : om (hdI F V) ≤ B) : asg om F V B = ((hdI F V, hdC F V) :: (asg om (popF F) (popV F V) (B - om (hdI F V))).1, (asg om (popF F) (popV F V) (B - om (hdI F V))).2) := by
 rcases F with _ | ⟨x, F⟩
 ·rcases V with _ | ⟨y, V⟩
  ·cases h
  ·simp only [hdI] at hx; rw [asg, if_pos hx]; rfl
 ·simp only [hdI] at hx; rw [asg, if_pos hx]; rfl
theorem pop_len (h : hdB F V = true) : (popF F).length + (popV F V).length + 1 = F.length + V.length := by
 rcases F with _ | ⟨x, F⟩
 ·rcases V with _ | ⟨y, V⟩
  ·cases h
  ·simp [popF, popV]
 ·simp [popF, popV]; omega
theorem pop_le (F V : List Int) : (popF F).length ≤ F.length ∧ (popV F V).length ≤ V.length := by
 rcases F with _ | ⟨x, F⟩
 ·rcases V with _ | ⟨y, V⟩ <;> simp [popF, popV]
 ·simp [popF, popV]
end
theorem asg_ind {om : Int → Int} {P : List Int → List Int → Int → List (Int × Int) × List Int × List Int × Int → Prop} (hnone : ∀ B, P [] [] B ([], [], [], B))
  (hwait : ∀ F V B, hdB F V = true → ¬ om (hdI F V) ≤ B → P F V B ([], F, V, B))
  (hnext : ∀ F V B r, hdB F V = true → om (hdI F V) ≤ B → P (popF F) (popV F V) (B - om (hdI F V)) r → P F V B ((hdI F V, hdC F V) :: r.1, r.2)) : ∀ (n : Nat) (F V : List Int) (B : Int), F.length + V.length = n → P F V B (asg om F V B) := by
 intro n
 induction n with
 | zero =>
  intro F V B h
  obtain rfl := List.eq_nil_of_length_eq_zero (show F.length = 0 by omega)
  obtain rfl := List.eq_nil_of_length_eq_zero (show V.length = 0 by omega)
  rw [(asg_none rfl).1]
  exact hnone B
 | succ n ih =>
  intro F V B h
  have hb : hdB F V = true := by
   rcases F with _ | ⟨x, F⟩
   ·rcases V with _ | ⟨y, V⟩
    ·simp at h
    ·rfl
   ·rfl
  by_cases hx : om (hdI F V) ≤ B
  ·rw [asg_next hb hx]
   exact hnext F V B _ hb hx (ih _ _ _ (by have := pop_len hb; omega))
  ·rw [asg_wait hb hx]
   exact hwait F V B hb hx
def sumW (om : Int → Int) : List (Int × Int) → Int
 | [] => 0
 | p :: l => om p.1 + sumW om l
section
variable {om : Int → Int}
theorem sumW_nonneg (h : ∀ i, 0 ≤ om i) (l : List (Int × Int)) : 0 ≤ sumW om l := by
 induction l with
 | nil => simp [sumW]
 | cons p l ih => simp only [sumW]; have := h p.1; omega
theorem asg_sum (om : Int → Int) (F V : List Int) (B : Int) : (asg om F V B).2.2.2 = B - sumW om (asg om F V B).1 :=
 asg_ind (P := fun F V B r => r.2.2.2 = B - sumW om r.1) (fun B => by simp [sumW]) (fun F V B _ _ => by simp [sumW]) (fun F V B r _ _ h => by simp only [sumW, h]; omega) _ F V B rfl
theorem asg_fits (om : Int → Int) (F V : List Int) (B : Int) (h0 : 0 ≤ B) : 0 ≤ (asg om F V B).2.2.2 :=
 asg_ind (P := fun F V B r => 0 ≤ B → 0 ≤ r.2.2.2) (fun B h => h) (fun F V B _ _ h => h) (fun F V B r _ hx h h0 => h (by omega)) _ F V B rfl h0
theorem asg_len (om : Int → Int) (F V : List Int) (B : Int) : (asg om F V B).1.length + (asg om F V B).2.1.length + (asg om F V B).2.2.1.length = F.length + V.length :=
 asg_ind (P := fun F V B r => r.1.length + r.2.1.length + r.2.2.1.length = F.length + V.length) (fun B => rfl) (fun F V B _ hx => by simp) (fun F V B r hb hx h => by have := pop_len hb; simp; omega) _ F V B rfl
end
end
section
open Go Go.RowKit
set_option maxRecDepth 100000
def rowA (ep : Int) (l : List (Int × Int)) : List Value := l.flatMap fun p => [.int .i64 p.1, .int .i64 p.2, .int .i64 ep]
theorem rowA_snoc (ep : Int) (l : List (Int × Int)) (p : Int × Int) : rowA ep (l ++ [p]) = rowA ep l ++ [.int .i64 p.1, .int .i64 p.2, .int .i64 ep] := by simp [rowA]
theorem asg_app : ∃ i, Tryz.prog.info? 280 = some i ∧ i.zero = some (.agg #[.int .i64 0, .int .i64 0, .int .i64 0]) ∧ i.size = 3 ∧ i.bytes = 24 := by
 have h : (Tryz.prog.info? 280).map (fun i => (i.zero, i.size, i.bytes)) = some (some (.agg #[.int .i64 0, .int .i64 0, .int .i64 0]), 3, 24) := by kernel_rfl
 cases hi : Tryz.prog.info? 280 with
 | none => rw [hi] at h; cases h
 | some i =>
  rw [hi] at h
  simp at h
  exact ⟨i, rfl, h.1, h.2.1, h.2.2⟩
theorem owns_slice_13 {w : World} {base n size : Nat} {e : TypeId} {v : Value} {xs : List Value} (h : w.ownsRow base e size v n xs) : ∃ a cp, v = .slice a n cp := by
 rcases h.2 with ⟨rfl, rfl⟩ | ⟨g, cp, cur, rfl, _⟩
 ·exact ⟨none, 0, rfl⟩
 ·exact ⟨_, cp, rfl⟩
def PInv (w : World) (b m nn : Nat) (S : Nat → Prop) (Sp B0 D ep : Int) (wr : World) (v : Value) (out : List (Int × Int)) (F V : List Int) (B : Int) : Prop :=
 ∃ S1 T1, Ln wr b S1 nn F V ∧ (∀ i, S1 i → S i ∨ w.heap.size ≤ i) ∧ ¬ S1 m ∧ MetAt wr m B (Sp + (B0 - B)) T1 D ∧ Fits_13 B (Sp + (B0 - B)) T1 D ∧
  wr.ownsRow w.heap.size 280 3 v out.length (rowA ep out) ∧ (∀ g, v.ownBlock = some g → ¬ S1 g) ∧ Kept (fun i => i = m ∨ S i) w wr ∧ m < w.heap.size
section
variable {w wr w' : World} {b m nn : Nat} {S : Nat → Prop} {Sp B0 D ep B x : Int} {v : Value} {out : List (Int × Int)} {F V : List Int}
theorem PInv.drewN (h : PInv w b m nn S Sp B0 D ep wr v out F V B) (q : Nat) : PInv w b m nn S Sp B0 D ep (wr.drewN q) v out F V B := by
 obtain ⟨S1, T1, h1, h2, h3, h4, h5, h6, h7, h8, h9⟩ := h
 exact ⟨S1, T1, h1, h2, h3, h4, h5, h6, h7, h8.drewN q, h9⟩
theorem PInv.head (h : PInv w b m nn S Sp B0 D ep wr v out F V B) : CallD 265 #[.pointer (some ⟨b, 0, none⟩)] wr (.tuple #[.int .i64 (hdI F V), .int .i64 (hdC F V), .bool (hdB F V)]) := by
 obtain ⟨S1, T1, h1, _⟩ := h
 exact head_any h1
theorem PInv.refuse (h : PInv w b m nn S Sp B0 D ep wr v out F V B) (hx : ¬ x ≤ B) : CallD 264 #[.pointer (some ⟨m, 0, none⟩), .int .u64 x] wr (.bool false) := by
 obtain ⟨S1, T1, h1, h2, h3, h4, h5, _⟩ := h
 exact take_no m _ _ _ _ x wr h4 h5 (by omega)
theorem PInv.take (h : PInv w b m nn S Sp B0 D ep wr v out F V B) (x0 : 0 ≤ x) (hx : x ≤ B) : Calls Tryz.prog 264 #[.pointer (some ⟨m, 0, none⟩), .int .u64 x] wr fun e w' => e = .returned (.bool true) ∧ Hid (PInv w b m nn S Sp B0 D ep w' v out F V (B - x)) := by
 obtain ⟨S1, T1, h1, h2, h3, h4, h5, h6, h7, h8, h9⟩ := h
 obtain ⟨T', hT, hN, hG, hb⟩ := take_eq h5 x0 hx
 refine (take_yes m _ _ _ _ T' x wr h4 h5 hx hT hG hb).mono ?_
 rintro e w' ⟨he, hm, hg⟩
 have k : Kept (fun i => i = m) wr w' := Kept.of_grown hg (fun i e => by injection e)
 have es : Sp + (B0 - B) + x = Sp + (B0 - (B - x)) := by omega
 rw [es] at hm hN
 exact ⟨he, Lib.hid ⟨S1, T', h1.kept k (fun i hi e => h3 (by rw [← show i = m from e]; exact hi)), h2, h3, hm, hN, owns_kept h6 k (fun g hg e => by have := (h6.lt g hg).1; have : g = m := e; omega), h7, h8.trans k (fun i _ e => .inl e), h9⟩⟩
theorem PInv.pop (h : PInv w b m nn S Sp B0 D ep wr v out F V B) : Calls Tryz.prog 284 #[.pointer (some ⟨b, 0, none⟩)] wr fun e w' => e = .returned (.tuple #[.int .i64 (hdI F V), .int .i64 (hdC F V), .bool (hdB F V)]) ∧ Hid (PInv w b m nn S Sp B0 D ep w' v out (popF F) (popV F V) B) := by
 obtain ⟨S1, T1, h1, h2, h3, h4, h5, h6, h7, h8, h9⟩ := h
 refine (pop_any h1).mono ?_
 rintro e w' ⟨he, S2, hl, hg⟩
 have new : ∀ i, i < wr.heap.size → ¬ S1 i → ¬ S2 i := fun i hi hn hs => (hg.2 i hs).elim hn (fun h => by omega)
 refine ⟨he, Lib.hid ⟨S2, T1, hl, fun i hi => ?_, new m (Nat.lt_of_lt_of_le h9 h8.size) h3, Blk.kept (w := wr) h4 hg.1 h3, h5, owns_kept h6 hg.1 h7, fun g hg' => new g (h6.lt g hg').2 (h7 g hg'), h8.trans hg.1 (fun i hi h => (h2 i h).elim .inr (fun h => by omega)), h9⟩⟩
 rcases hg.2 i hi with h | h
 ·exact h2 i h
 ·exact .inr (Nat.le_trans h8.size h)
theorem PInv.alloc (h : PInv w b m nn S Sp B0 D ep wr v out F V B) (o : Obj) : PInv w b m nn S Sp B0 D ep (wr.alloc o) v out F V B := by
 obtain ⟨S1, T1, h1, h2, h3, h4, h5, h6, h7, h8, h9⟩ := h
 have k : Kept (fun _ => False) wr (wr.alloc o) := (Kept.refl _ _).alloc o
 exact ⟨S1, T1, h1.kept k (fun _ _ h => h), h2, h3, Blk.alloc h4 o, h5, h6.alloc _, h7, h8.alloc o, h9⟩
theorem PInv.app {v' : Value} {p : Int × Int} (h : PInv w b m nn S Sp B0 D ep wr v out F V B) (ho : w'.ownsRow w.heap.size 280 3 v' (out.length + 1) (rowA ep out ++ [.int .i64 p.1, .int .i64 p.2, .int .i64 ep])) (hg : wr.grownBy w' v.ownBlock)
  (ha : v'.ownBlock = v.ownBlock ∨ v'.ownBlock = some wr.heap.size) : PInv w b m nn S Sp B0 D ep w' v' (out ++ [p]) F V B := by
 obtain ⟨S1, T1, h1, h2, h3, h4, h5, h6, h7, h8, h9⟩ := h
 have k : Kept (fun i => some i = v.ownBlock) wr w' := Kept.of_grown hg (fun i e => e)
 refine ⟨S1, T1, h1.kept k (fun i hi e => h7 i (Eq.symm e) hi), h2, h3, Blk.kept (w := wr) h4 k (fun e => by have := (h6.lt m (Eq.symm e)).1; omega), h5, by rw [rowA_snoc]; simpa using ho, fun g hg' => ?_, h8.trans k (fun i hi e => by have := (h6.lt i (Eq.symm e)).1; omega), h9⟩
 rcases ha with ha | ha
 ·exact h7 g (ha ▸ hg')
 ·rw [ha] at hg'
  injection hg' with hg'
  exact fun hs => by have := h1.lt g hs; omega
end
def Src3 (w : World) (g : Nat) (l : List Value) : Prop := (0 < 1 → ∃ ad, some (⟨g, 0, none⟩ : Addr) = some ad ∧ ∀ j u, l[j]? = some u → w.cell? (ad.add j) = some u) ∧ ∀ u ∈ l, u.oneCell' = true
theorem src3_new (w : World) (t : TypeId) (x y z : Int) : Src3 (w.alloc (.cells #[.int .i64 x, .int .i64 y, .int .i64 z] t)) w.heap.size [.int .i64 x, .int .i64 y, .int .i64 z] := by
 refine ⟨fun _ => ⟨_, rfl, fun j u hj => ?_⟩, fun u hu => ?_⟩
 ·rw [add_plain, Nat.zero_add, (Blk.new w t #[.int .i64 x, .int .i64 y, .int .i64 z]).cell]
  simpa using hj
 ·simp at hu
  rcases hu with rfl | rfl | rfl <;> rfl
def ProcPost (w : World) (b m nn : Nat) (S : Nat → Prop) (Sp B0 D ep : Int) (om : Int → Int) (F V : List Int) (e : Ending) (w' : World) : Prop :=
 ∃ a c, e = .returned (.slice a (asg om F V B0).1.length c) ∧ Hid (PInv w b m nn S Sp B0 D ep w' (.slice a (asg om F V B0).1.length c) (asg om F V B0).1 (asg om F V B0).2.1 (asg om F V B0).2.2.1 (asg om F V B0).2.2.2)
section
variable {w : World} {b m nn : Nat} {S : Nat → Prop} {B Sp T D ep : Int} {F V L : List Int} {wa : Option Addr} {cap : Nat}
set_option maxHeartbeats 1600000 in
theorem process_any (hl : Ln w b S nn F V) (hm : MetAt w m B Sp T D) (hF : Fits_13 B Sp T D) (hn : ¬ S m) (hu : UAt w (fun i => i = m ∨ S i) wa L) (hL : L.length ≤ 9223372036854775807) (hA : Amts L) :
  Calls Tryz.prog 263 #[.int .i64 ep, .pointer (some ⟨b, 0, none⟩), .slice wa L.length cap, .func (.func 264) #[.pointer (some ⟨m, 0, none⟩)] #[]] w (ProcPost w b m nn S Sp B D ep (wOf L) F V) := by
 obtain ⟨j0, hj0, hz0, hz1, hz2⟩ := asg_app
 have hsz := hl.size
 have HU := Lib.hid hu
 have HA := Lib.hid hA
 have HL := Lib.hid hL
 have hmlt := Blk.lt hm
 have H0 : Hid (PInv w b m nn S Sp B D ep w (.slice none 0 0) [] F V B) := Lib.hid ⟨S, T, hl, fun i hi => .inl hi, hn, by rw [show Sp + (B - B) = Sp by omega]; exact hm, by rw [show Sp + (B - B) = Sp by omega]; exact hF, World.ownsRow_nil _ _ _ _, (fun g hg => by cases hg), Kept.refl _ _, hmlt⟩
 have HN : Hid (F.length + V.length ≤ 2097152) := Lib.hid (by omega)
 clear hl hm hF hn hu hA hsz hmlt hL
 go_enter Tryz.func263, Tryz.ntmps263
 go_wp2
 go_loopg [9] (F.length + V.length) (fun g s9 wr => ∃ (F1 V1 : List Int) (B1 : Int) (out : List (Int × Int)) (k : Nat) (a : Option Addr) (c : Nat), F1.length + V1.length = g ∧ s9 = .slice a k c ∧ Hid (k = out.length ∧ k + g ≤ 2097152) ∧
  Hid (PInv w b m nn S Sp B D ep wr (.slice a k c) out F1 V1 B1) ∧ Hid (asg (wOf L) F V B = (out ++ (asg (wOf L) F1 V1 B1).1, (asg (wOf L) F1 V1 B1).2)))
 case atStart => exact ⟨F, V, B, [], 0, none, 0, rfl, rfl, Lib.hid ⟨rfl, by have := HN.out; omega⟩, H0, Lib.hid rfl⟩
 case round =>
  clear H0 HN
  obtain ⟨F1, V1, B1, out, k, a, c, hg, rfl, HK, HP, HE⟩ := hrel
  have HG := Lib.hid hg
  clear hg
  go_wp2_with fail
  refine HP.out.head.mono ?_
  rintro e w1 ⟨rfl, q, rfl⟩
  have HP1 := Lib.hid (HP.out.drewN q)
  have HU1 : Hid (UAt (wr.drewN q) (fun i => i = m ∨ S i) wa L) := Lib.hid (by
   obtain ⟨_, _, _, _, _, _, _, _, _, k8, _⟩ := HP1.out
   exact HU.out.kept k8 (fun _ _ h => h))
  clear HP
  generalize wr.drewN q = w1 at *
  cases hb : hdB F1 V1
  ·have HR : Hid (ProcPost w b m nn S Sp B D ep (wOf L) F V (.returned (.slice a k c)) w1) := Lib.hid (by
    have e1 := HE.out
    rw [(asg_none hb).1, List.append_nil] at e1
    refine ⟨a, c, by rw [e1]; simp only [HK.out.1], ?_⟩
    rw [e1]
    have := HP1.out
    rw [HK.out.1] at this
    exact Lib.hid this)
   clear HP1 HU1 HE HK
   have HB := Lib.hid hb
   clear hb
   go_wp2
   try rw [Exit.noGoto_ret]
   go_ret
   exact HR.out
  ·have HB := Lib.hid hb
   clear hb
   obtain ⟨x, hx⟩ := named (wOf L (hdI F1 V1))
   have hi := fun w h => weight_any (S := fun i => i = m ∨ S i) (a := wa) cap (hdI F1 V1) w h HL.out
   rw [hx] at hi
   have HI := Lib.hid hi
   have HX := Lib.hid hx
   have hx0 := wOf_amt HA.out (hdI F1 V1)
   rw [hx] at hx0
   have HX0 := Lib.hid hx0
   clear hi hx hx0
   by_cases hle : x ≤ B1
   ·have HT := Lib.hid (HP1.out.take HX0.out.1 hle)
    have HE2 : Hid (asg (wOf L) F V B = ((out ++ [(hdI F1 V1, hdC F1 V1)]) ++ (asg (wOf L) (popF F1) (popV F1 V1) (B1 - x)).1, (asg (wOf L) (popF F1) (popV F1 V1) (B1 - x)).2)) := Lib.hid (by
     have e1 := HE.out
     rw [asg_next HB.out (by rw [HX.out]; exact hle), HX.out] at e1
     rw [e1]; simp)
    have HG2 : Hid ((popF F1).length + (popV F1 V1).length + 1 = gk) := Lib.hid (by have := pop_len HB.out; have := HG.out; omega)
    clear hle HE HX HX0 HP1
    go_wp2_with fail
    refine (HI.out _ HU1.out).mono ?_
    rintro e w' ⟨rfl, rfl⟩
    go_wp2_with fail
    refine HT.out.mono ?_
    rintro e w2 ⟨rfl, HP2⟩
    clear HT HI HU1
    go_wp2_with fail
    refine HP2.out.pop.mono ?_
    rintro e w3 ⟨rfl, HP3⟩
    clear HP2
    generalize popF F1 = F2 at *
    generalize popV F1 V1 = V2 at *
    generalize hdI F1 V1 = ix at *
    generalize hdC F1 V1 = ic at *
    generalize hdB F1 V1 = ib at *
    have HP4 : Hid (PInv w b m nn S Sp B D ep (w3.alloc (.cells #[.int .i64 ix, .int .i64 ic, .int .i64 ep] 280)) (.slice a k c) out F2 V2 (B1 - x)) := Lib.hid (HP3.out.alloc _)
    have HO4 : Hid ((w3.alloc (.cells #[.int .i64 ix, .int .i64 ic, .int .i64 ep] 280)).ownsRow w.heap.size 280 3 (.slice a k c) k (rowA ep out) ∧ w.heap.size ≤ w3.heap.size) := Lib.hid (by
     obtain ⟨_, _, _, _, _, _, _, k6, _, k8, _⟩ := HP4.out
     obtain ⟨_, _, _, _, _, _, _, _, _, k8', _⟩ := HP3.out
     exact ⟨by rw [← HK.out.1] at k6; exact k6, k8'.size⟩)
    have hkb : k ≤ 2097152 := by have := HK.out.2; omega
    clear HP3
    have HN1 : Hid (Src3 (w3.alloc (.cells #[.int .i64 ix, .int .i64 ic, .int .i64 ep] 280)) w3.heap.size [.int .i64 ix, .int .i64 ic, .int .i64 ep]) := Lib.hid (src3_new w3 _ ix ic ep)
    go_wp2_with (at_builtin; refine wpList_append_src _ rfl (.tmp 32) (.tmp 37) 50 rfl w.heap.size 280 j0 _ 3 24 Tryz.underlying50 hj0 hz0 hz1 hz2 rfl (by decide) (.slice a k c) k (rowA ep out) rfl HO4.out.1 (some ⟨w3.heap.size, 0, none⟩) 1 1 [.int .i64 ix, .int .i64 ic, .int .i64 ep] rfl rfl HN1.out.1 HN1.out.2 (by unfold maxLen; omega) (by omega) (by have := HO4.out.2; simp; omega) ?_)
    intro v' w5 ho5 hg5 ha5
    have HP5 : Hid (PInv w b m nn S Sp B D ep w5 v' (out ++ [(ix, ic)]) F2 V2 (B1 - x)) := Lib.hid (HP4.out.app (p := (ix, ic)) (by rw [← HK.out.1]; exact ho5) hg5 (by simpa using ha5))
    obtain ⟨a5, c5, rfl⟩ := owns_slice_13 ho5
    have HK5 : Hid (k + 1 = (out ++ [(ix, ic)]).length ∧ k + 1 + (gk - 1) ≤ 2097152) := Lib.hid ⟨by rw [List.length_append, HK.out.1]; rfl, by have := HK.out.2; have := HG2.out; omega⟩
    have HGG : Hid (F2.length + V2.length = gk - 1 ∧ 0 < gk) := Lib.hid (by have := HG2.out; omega)
    clear ho5 hg5 ha5 HP4 HO4 HK HG HG2 hkb HN1
    go_wp2
    go_roundg (gk - 1)
    case measure => have := HGG.out.2; omega
    case rel => exact ⟨F2, V2, B1 - x, out ++ [(ix, ic)], k + 1, a5, c5, HGG.out.1, rfl, HK5, HP5, HE2⟩
   ·have HT := Lib.hid (HP1.out.refuse hle)
    have HR : Hid (∀ q, ProcPost w b m nn S Sp B D ep (wOf L) F V (.returned (.slice a k c)) (w1.drewN q)) := Lib.hid (fun q => by
     have e1 := HE.out
     rw [asg_wait HB.out (by rw [HX.out]; exact hle), List.append_nil] at e1
     refine ⟨a, c, by rw [e1]; simp only [HK.out.1], ?_⟩
     rw [e1]
     have := HP1.out.drewN q
     rw [HK.out.1] at this
     exact Lib.hid this)
    clear HP1 HE HK HX
    go_wp2_with fail
    refine (HI.out _ HU1.out).mono ?_
    rintro e w' ⟨rfl, rfl⟩
    go_wp2_with fail
    refine HT.out.mono ?_
    rintro e w2 ⟨rfl, q2, rfl⟩
    clear HT HI HU1
    go_wp2
    try rw [Exit.noGoto_ret]
    go_ret
    exact HR.out _
end
end
section
open Go Go.RowKit
set_option maxRecDepth 100000
def gr (B x : Int) : Int := B + (if 18446744073709551615 - B < x then 18446744073709551615 - B else x)
def stp (om : Int → Int) (F V : List Int) (B x : Int) : List (Int × Int) × List Int × List Int × Int := asg om F V (gr B x)
def balOf (r : List (Int × Int) × List Int × List Int × Int) : Int := if hdB r.2.1 r.2.2.1 = true then r.2.2.2 else 0
def SInv (w : World) (b m nn : Nat) (S : Nat → Prop) (ep : Int) (wr : World) (v : Value) (out : List (Int × Int)) (F V : List Int) (B Sp : Int) : Prop :=
 ∃ S1 T1 D1, Ln wr b S1 nn F V ∧ (∀ i, S1 i → S i ∨ w.heap.size ≤ i) ∧ ¬ S1 m ∧ MetAt wr m B Sp T1 D1 ∧ Fits_13 B Sp T1 D1 ∧
  wr.ownsRow w.heap.size 280 3 v out.length (rowA ep out) ∧ (∀ g, v.ownBlock = some g → ¬ S1 g) ∧ Kept (fun i => i = m ∨ S i) w wr ∧ m < w.heap.size
theorem owns_base_13 {w : World} {base base' n size : Nat} {e : TypeId} {v : Value} {xs : List Value} (h : w.ownsRow base e size v n xs) (hb : base' ≤ base) : w.ownsRow base' e size v n xs := by
 obtain ⟨h1, h2⟩ := h
 refine ⟨h1, ?_⟩
 rcases h2 with h2 | ⟨g, cap, cur, rfl, h3, h4⟩
 ·exact .inl h2
 ·exact .inr ⟨g, cap, cur, rfl, Nat.le_trans hb h3, h4⟩
section
variable {w w1 wr w' : World} {b m nn : Nat} {S : Nat → Prop} {Sp B0 D ep B x : Int} {v : Value} {out : List (Int × Int)} {F V : List Int}
theorem PInv.to (h : PInv w1 b m nn S Sp B0 D ep wr v out F V B) (k : Kept (fun i => i = m ∨ S i) w w1) (hm : m < w.heap.size) : SInv w b m nn S ep wr v out F V B (Sp + (B0 - B)) := by
 obtain ⟨S1, T1, h1, h2, h3, h4, h5, h6, h7, h8, h9⟩ := h
 exact ⟨S1, T1, D, h1, fun i hi => (h2 i hi).imp id (fun h => Nat.le_trans k.size h), h3, h4, h5, owns_base_13 h6 k.size, h7, k.trans h8 (fun _ _ h => h), hm⟩
theorem SInv.drewN (h : SInv w b m nn S ep wr v out F V B Sp) (q : Nat) : SInv w b m nn S ep (wr.drewN q) v out F V B Sp := by
 obtain ⟨S1, T1, D1, h1, h2, h3, h4, h5, h6, h7, h8, h9⟩ := h
 exact ⟨S1, T1, D1, h1, h2, h3, h4, h5, h6, h7, h8.drewN q, h9⟩
theorem SInv.head (h : SInv w b m nn S ep wr v out F V B Sp) : CallD 265 #[.pointer (some ⟨b, 0, none⟩)] wr (.tuple #[.int .i64 (hdI F V), .int .i64 (hdC F V), .bool (hdB F V)]) := by
 obtain ⟨S1, T1, D1, h1, _⟩ := h
 exact head_any h1
theorem SInv.drop (h : SInv w b m nn S ep wr v out F V B Sp) : Calls Tryz.prog 266 #[.pointer (some ⟨m, 0, none⟩)] wr fun e w' => e = .returned (.int .u64 B) ∧ Hid (SInv w b m nn S ep w' v out F V 0 Sp) := by
 obtain ⟨S1, T1, D1, h1, h2, h3, h4, h5, h6, h7, h8, h9⟩ := h
 obtain ⟨D', hD, hN, hG⟩ := drop_eq h5
 refine (drop_any m _ _ _ _ D' wr h4 h5 hD hG).mono ?_
 rintro e w' ⟨he, hm, hg⟩
 have k : Kept (fun i => i = m) wr w' := Kept.of_grown hg (fun i e => by injection e)
 exact ⟨he, Lib.hid ⟨S1, T1, D', h1.kept k (fun i hi e => h3 (by rw [← show i = m from e]; exact hi)), h2, h3, hm, hN, owns_kept h6 k (fun g hg e => by have := (h6.lt g hg).1; have : g = m := e; omega), h7, h8.trans k (fun i _ e => .inl e), h9⟩⟩
end
def StepPost (w : World) (b m nn : Nat) (S : Nat → Prop) (om : Int → Int) (F V : List Int) (B x ep : Int) (e : Ending) (w' : World) : Prop :=
 ∃ a c, e = .returned (.slice a (stp om F V B x).1.length c) ∧ Hid (SInv w b m nn S ep w' (.slice a (stp om F V B x).1.length c) (stp om F V B x).1 (stp om F V B x).2.1 (stp om F V B x).2.2.1 (balOf (stp om F V B x)) (gr B x - (stp om F V B x).2.2.2))
section
variable {w : World} {b m nn : Nat} {S : Nat → Prop} {B Sp T D x ep : Int} {F V L : List Int} {wa : Option Addr} {cap : Nat}
set_option maxHeartbeats 1600000 in
theorem step_any (hl : Ln w b S nn F V) (hm : MetAt w m B Sp T D) (hF : Fits_13 B Sp T D) (hn : ¬ S m) (hu : UAt w (fun i => i = m ∨ S i) wa L) (hL : L.length ≤ 9223372036854775807) (hA : Amts L) (hx : 0 ≤ x) (he0 : 0 ≤ ep) (he1 : ep ≤ 1099511627776) :
  Calls Tryz.prog 235 #[.int .i64 ep, .pointer (some ⟨b, 0, none⟩), .pointer (some ⟨m, 0, none⟩), .int .u64 x, .slice wa L.length cap] w (StepPost w b m nn S (wOf L) F V B x (ep + 1)) := by
 obtain ⟨p, hp, hG, hN, hb, _⟩ := grant_eq hF hx
 have hgr : B + p = gr B x := by rw [gr, hp]
 have hmf : ∀ (fn : Fn) (first cap : Array Value) (w : World), (Instr.makeFunc fn first cap).run Tryz.prog w = .ok (.func fn first cap) w := fun _ _ _ _ => rfl
 have HG := Lib.hid ((grant_any m B Sp T D x p w hm hF hp hG hN hb).mono (R' := fun e w' => e = .returned (.int .u64 (B + p)) ∧ Hid (Kept (fun i => i = m) w w' ∧ Calls Tryz.prog 263 #[.int .i64 (ep + 1), .pointer (some ⟨b, 0, none⟩), .slice wa L.length cap, .func (.func 264) #[.pointer (some ⟨m, 0, none⟩)] #[]] w' (ProcPost w' b m nn S 0 (B + p) D (ep + 1) (wOf L) F V)))
  (fun e w' ⟨he, hm', hg⟩ => ⟨he, Lib.hid (by
   have k : Kept (fun i => i = m) w w' := Kept.of_grown hg (fun i e => by injection e)
   exact ⟨k, process_any (hl.kept k (fun i hi e => hn (by rw [← show i = m from e]; exact hi))) hm' hN hn (hu.kept k (fun i _ e => .inl e)) hL hA⟩)⟩))
 have hmlt := Blk.lt hm
 rw [hgr] at HG
 have HM := Lib.hid hmlt
 clear hl hm hF hn hu hA hL hmlt hp hG hN hb hgr hx
 go_enter Tryz.func235, Tryz.ntmps235
 go_wp2_with fail
 refine HG.out.mono ?_
 rintro e w1 ⟨rfl, HP⟩
 clear HG
 go_wp2_with fail
 refine HP.out.2.mono ?_
 rintro e w2 ⟨a, c, he, H2⟩
 change e = .returned (.slice a (stp (wOf L) F V B x).1.length c) at he
 subst he
 have H3 : Hid (SInv w b m nn S (ep + 1) w2 (.slice a (stp (wOf L) F V B x).1.length c) (stp (wOf L) F V B x).1 (stp (wOf L) F V B x).2.1 (stp (wOf L) F V B x).2.2.1 (stp (wOf L) F V B x).2.2.2 (gr B x - (stp (wOf L) F V B x).2.2.2)) := Lib.hid (by
  have := H2.out.to (w := w) (HP.out.1.more (fun i _ e => .inl e)) HM.out
  rw [Int.zero_add] at this
  exact this)
 clear H2 HP hmf
 have HR : Hid (∀ w', SInv w b m nn S (ep + 1) w' (.slice a (stp (wOf L) F V B x).1.length c) (stp (wOf L) F V B x).1 (stp (wOf L) F V B x).2.1 (stp (wOf L) F V B x).2.2.1 (balOf (stp (wOf L) F V B x)) (gr B x - (stp (wOf L) F V B x).2.2.2) → StepPost w b m nn S (wOf L) F V B x (ep + 1) (.returned (.slice a (stp (wOf L) F V B x).1.length c)) w') := Lib.hid (fun w' h => ⟨a, c, rfl, Lib.hid h⟩)
 have hbl : balOf (stp (wOf L) F V B x) = if hdB (stp (wOf L) F V B x).2.1 (stp (wOf L) F V B x).2.2.1 = true then (stp (wOf L) F V B x).2.2.2 else 0 := rfl
 generalize balOf (stp (wOf L) F V B x) = bl at *
 generalize StepPost w b m nn S (wOf L) F V B x (ep + 1) = Q at *
 generalize gr B x - (stp (wOf L) F V B x).2.2.2 = sp at *
 generalize (stp (wOf L) F V B x).1.length = nl at *
 generalize stp (wOf L) F V B x = r at *
 obtain ⟨out, F2, V2, B2⟩ := r
 dsimp only at *
 have HB := Lib.hid hbl
 clear hbl
 go_wp2_with fail
 refine H3.out.head.mono ?_
 rintro e w3 ⟨rfl, q, rfl⟩
 have H4 := Lib.hid (H3.out.drewN q)
 clear H3
 generalize w2.drewN q = w3 at *
 cases hb : hdB F2 V2
 ·have HD := Lib.hid H4.out.drop
  rw [hb] at HB
  clear hb H4
  go_wp2_with fail
  refine HD.out.mono ?_
  rintro e w4 ⟨rfl, H5⟩
  have H6 := Lib.hid (HR.out w4 (by rw [HB.out]; exact H5.out))
  clear HR HD H5 HB
  go_wp2
  exact H6.out
 ·rw [hb] at HB
  have H6 := Lib.hid (HR.out w3 (by rw [HB.out]; exact H4.out))
  clear HR HB hb H4
  go_wp2
  exact H6.out
end
end
section
open Go Go.RowKit
set_option maxRecDepth 100000
structure Good (c : Nat → Int) : Prop where
 cap0 : 1 ≤ c 0
 cap1 : c 0 ≤ 4096
 part : 0 ≤ c 16
 vis0 : c 16 < c 14
 pay0 : c 16 < c 15
 vis1 : c 14 ≤ 4096
 pay1 : c 15 ≤ 4096
 chu0 : 1 ≤ c 7
 chu1 : c 7 ≤ 1152921504606846976
 fcp0 : 0 ≤ c 9
 fcp1 : c 9 ≤ 1152921504606846976
 unb0 : 1 ≤ c 10
 unb1 : c 10 ≤ 1048576
 sla0 : c 10 < c 11
 sla1 : c 11 ≤ 1048576
 len0 : 1 ≤ c 13
 len1 : c 13 ≤ 4096
theorem btw_spec {v lo hi : Int} (h : btw v lo hi = true) : lo ≤ v ∧ v ≤ hi := by unfold btw at h; simpa using h
theorem bounds_u64 {n : Int} (h : (Lit.int .u64 n).wf = true) : 0 ≤ n ∧ n ≤ 18446744073709551615 := by
 simp [Lit.wf, IntKind.min, IntKind.max, IntKind.signed, IntKind.bits] at h
 omega
theorem bounds_i64 {n : Int} (h : (Lit.int .i64 n).wf = true) : -9223372036854775808 ≤ n ∧ n ≤ 9223372036854775807 := by
 simp [Lit.wf, IntKind.min, IntKind.max, IntKind.signed, IntKind.bits] at h
 omega
theorem good_of_chk {c : Nat → Int} (hf : Fits c) (h : chk c = 0) : Good c := by
 rcases chk_cases c with ⟨_, hb⟩ | ⟨k, _, _, _, e⟩
 ·have h0 := btw_spec (hb 0 (by omega))
  have h7 := btw_spec (hb 7 (by omega))
  have h9 : decide (c 9 ≤ most) = true := hb 9 (by omega)
  have h10 := btw_spec (hb 10 (by omega))
  have h11 : decide (c 10 < c 11 ∧ c 11 ≤ 1048576) = true := hb 11 (by omega)
  have h13 := btw_spec (hb 13 (by omega))
  have h14 := btw_spec (hb 14 (by omega))
  have h15 := btw_spec (hb 15 (by omega))
  have h16 : decide (0 ≤ c 16 ∧ c 16 < c 14 ∧ c 16 < c 15) = true := hb 16 (by omega)
  have f9 : (Lit.int .u64 (c 9)).wf = true := hf 9 (by omega)
  simp at h9 h11 h16
  unfold most at h7 h9
  exact ⟨h0.1, h0.2, h16.1, h16.2.1, h16.2.2, h14.2, h15.2, h7.1, h7.2, (bounds_u64 f9).1, h9, h10.1, h10.2, h11.1, h11.2, h13.1, h13.2⟩
 ·omega
def dflt : Nat → Int
 | 0 => 16
 | 1 => 8
 | 2 => 16
 | 3 => 64
 | 4 => 1024
 | 5 => 8
 | 6 => 128
 | 7 => 32
 | 8 => 4
 | 9 => 64
 | 10 => 2
 | 11 => 5
 | 12 => 4
 | 13 => 4
 | 14 => 6
 | 15 => 4
 | 16 => 2
 | 17 => 2
 | 18 => 1
 | 19 => 4
 | _ => 0
theorem dflt_chk : chk dflt = 0 := by decide +kernel
theorem dflt_fits : Fits dflt := by
 intro k hk
 have : k = 0 ∨ k = 1 ∨ k = 2 ∨ k = 3 ∨ k = 4 ∨ k = 5 ∨ k = 6 ∨ k = 7 ∨ k = 8 ∨ k = 9 ∨ k = 10 ∨ k = 11 ∨ k = 12 ∨ k = 13 ∨ k = 14 ∨ k = 15 ∨ k = 16 ∨ k = 17 ∨ k = 18 ∨ k = 19 := by omega
 rcases this with h | h | h | h | h | h | h | h | h | h | h | h | h | h | h | h | h | h | h | h <;> subst h <;> decide
theorem cells_one (c : Nat → Int) : (cellsOf c).all (·.oneCell') = true := by kernel_rfl
theorem default_any (w : World) : CallB 29 #[] w (.agg (cellsOf dflt)) := by
 go_enter Tryz.func29, Tryz.ntmps29
 go_wp2_with (first | (refine wpList_build rfl 30 _ rfl (by kernel_rfl) ?_; rw [show (Tryz.prog.built 30 _).getD #[] = cellsOf dflt from by kernel_rfl]) | (refine wsr w.heap.size (cellsOf dflt) 30 (heap_alloc_new w _) info24 (cells_one _) ?_; rw [World.setRow_alloc_new]))
 exact bodyPost_ret (v := .agg (cellsOf dflt)) (results_cell_row (fn := Tryz.f29) rfl _ _ w.heap.size 30 (cellsOf dflt) (0, 0) _ rfl (heap_alloc_new w _) Tryz.underlying30 rfl info24) rfl ⟨rfl, (Below.refl _ _).alloc (Nat.le_refl _) _⟩
def perBlock (c : Nat → Int) : Int := min (c 14 - c 16) (c 15 - c 16)
def blocks (c : Nat → Int) : Int := (c 0 - 1) / perBlock c + 1
def sweepN (c : Nat → Int) : Int := (blocks c - 1) / c 13
end
section
open Go Go.RowKit
set_option maxRecDepth 100000
def wl (om : Int → Int) (I : List Int) (k : Nat) : List Int := (List.range I.length).map fun i => if i < k then om (I.getD i 0) else 0
theorem owns_slice' {w : World} {base n size : Nat} {e : TypeId} {v : Value} {xs : List Value} (h : w.ownsRow base e size v n xs) : ∃ a cp, v = .slice a n cp := by
 rcases h.2 with ⟨rfl, rfl⟩ | ⟨g, cp, cur, rfl, _⟩
 ·exact ⟨none, 0, rfl⟩
 ·exact ⟨_, cp, rfl⟩
end
section
open Go Go.RowKit
set_option maxRecDepth 100000
def bndF (h : Nat) : Value := .func (.func 268) #[] #[.pointer (some ⟨h + 2, 0, none⟩), .pointer (some ⟨h + 1, 0, none⟩), .pointer (some ⟨h, 0, none⟩)]
end
section
set_option maxRecDepth 100000
open Go Go.RowKit Go.Deep
section
variable {ops : Array Oper} {rest : List Oper} {o : Oper} {a : Act} {w : World} {Q : Exit → Act → World → Prop}
theorem wpList_build1 (hgd : o.guard = none) (x : Operand) (ho : o.op = .buildSlice 165 1 #[(0, x)]) (v : Ent) (hx : a.eval x = .agg (cellsE v))
  (h : wpList Tryz.prog ops Q rest (a.put o.dst (.slice (some ⟨w.heap.size, 0, none⟩) 1 1)) (w.alloc (.cells (cellsE v) 271))) : wpList Tryz.prog ops Q (o :: rest) a w :=
 wpList_plain hgd fun _ hK => wp_buildSlice_pair 165 271 x _ (.int .i64 v.1) (.int .i64 v.2) ho hx Tryz.underlying165 ent_info2 (hK _ _ h)
theorem wpList_append_fit (hgd : o.guard = none) (s x : Operand) (ho : o.op = .call { callee := .builtin .append, args := #[s, x], argTypes := #[165, 165] })
  (g r cp q : Nat) (v : Ent) (hs : a.eval s = .slice (some ⟨g, 0, none⟩) r cp) (hx : a.eval x = .slice (some ⟨q, 0, none⟩) 1 1) (hq : ∀ j u, (rowE v)[j]? = some u → w.cell? ((⟨q, 0, none⟩ : Addr).add j) = some u) (hr : r + 1 ≤ cp) (ht : w.there g (r * 2) 2)
  (h : wpList Tryz.prog ops Q rest (a.put o.dst (.slice (some ⟨g, 0, none⟩) (r + 1) cp)) (w.setCells g (r * 2) (rowE v))) : wpList Tryz.prog ops Q (o :: rest) a w := by
 refine wpList_plain hgd fun K hK => ?_
 obtain ⟨i, hi, hz, hs2, hby⟩ := ent_app
 have hrun := run_append_room_cells (P := Tryz.prog) w 165 o.type 271 i Tryz.underlying165 hi g 0 r cp ⟨q, 0, none⟩ 1 1 (rowE v) (by rw [hs2]; rfl) hq (row_one_08 v) hr
  (fun j hj => by rw [hs2, Nat.zero_add]; exact (ht j hj).1) (fun j hj => by rw [hs2, Nat.zero_add]; exact (ht j hj).2)
 rw [hs2, Nat.zero_add] at hrun
 unfold Oper.wp
 simp [execOp, ho, resolve, invoke, builtin, hs, hx, hrun, Result.andThen]
 exact hK _ _ h
end
def stay (ep : Int) (l : List Ent) : List Ent := l.filter fun e => !(e.1 == ep)
def goes (ep : Int) (l : List Ent) : List Int := (l.filter fun e => e.1 == ep).map (·.2)
theorem stay_snoc (ep : Int) (l : List Ent) (x : Ent) : stay ep (l ++ [x]) = if x.1 = ep then stay ep l else stay ep l ++ [x] := by
 unfold stay
 rw [List.filter_append]
 by_cases h : x.1 = ep <;> simp [h]
theorem goes_snoc (ep : Int) (l : List Ent) (x : Ent) : goes ep (l ++ [x]) = if x.1 = ep then goes ep l ++ [x.2] else goes ep l := by
 unfold goes
 rw [List.filter_append, List.map_append]
 by_cases h : x.1 = ep <;> simp [h]
theorem goes_len (ep : Int) (l : List Ent) : (goes ep l).length ≤ l.length := by unfold goes; rw [List.length_map]; exact List.length_filter_le _ _
theorem ent_snoc {l : List Ent} {k : Nat} {v : Ent} (h : l[k]? = some v) : l.take (k + 1) = l.take k ++ [v] := by
 rw [List.take_add_one, h]
 rfl
structure DueAt (w0 w : World) (g cp q k r : Nat) (ep : Int) (l : List Ent) (v : Value) : Prop where
 len : (stay ep (l.take k)).length = r
 row : Row w g cp q (stay ep (l.take k) ++ l.drop r)
 out : w.ownsRow w0.heap.size 3 1 v (goes ep (l.take k)).length ((goes ep (l.take k)).map (Value.int .i64))
 kept : Kept (fun i => i = g) w0 w
def DuePost (w : World) (b B n j : Nat) (ss : List Value) (s : Value) (L : List Ent) (ep : Int) (e : Ending) (w' : World) : Prop :=
 ∃ v s', e = .returned v ∧ w'.ownsRow w.heap.size 3 1 v (goes ep L).length ((goes ep L).map (Value.int .i64)) ∧ RingP w' b B n (ss.set j s') (stay ep L) ∧ s'.ownBlock = s.ownBlock ∧ Kept (fun i => i = B ∨ s.ownBlock = some i) w w'
theorem due_ring {w w3 : World} {b B n j : Nat} {s s' : Value} {ss : List Value} {L : List Ent} {ep : Int} (h : RingP w b B n ss L) (hs : ss[j]? = some s) (hj : ep % (n : Int) = (j : Int))
  (hk : Kept (fun i => s.ownBlock = some i) w w3) (ho : w3.ownsRow 0 271 2 s' (stay ep (bk n L j)).length (flat_08 (stay ep (bk n L j)))) (hn : s'.ownBlock = s.ownBlock) :
  RingP (w3.setCell ⟨B, j, none⟩ s') b B n (ss.set j s') (stay ep L) := by
 have hnot := h.not hs
 have hBk : w3.heap[B]? = w.heap[B]? := hk.block B h.bks.lt hnot.2
 have e1 : bk n (stay ep L) j = stay ep (bk n L j) := bk_filter n L j _
 refine h.upd hs ?_ ?_ (fun i t hij ht q hq => ?_) ?_ (fun i hi => ?_) (.inl hn) (fun x hx => h.ok x (List.mem_filter.1 hx).1)
 ·rw [Below.heap_setCell _ _ _ _ h.ne]
  exact hk.block b h.own.lt hnot.1
 ·have := Blk.set_ (w := w3) (g := B) (t := 165) (cs := ss.toArray) (hBk.trans h.bks) j s'
  simpa using this
 ·rw [Below.heap_setCell _ _ _ _ (fun e => (h.not ht).2 (by rw [hq, e]))]
  exact hk.block q (h.lt (List.mem_of_getElem? ht) hq) (fun e => h.apart _ _ _ _ q hij ht hs hq e)
 ·rw [e1]
  exact owns_same_08 (w := w3) ho (fun q hq => Below.heap_setCell _ _ _ _ (fun e => hnot.2 (by rw [← hn, hq, e])))
 ·rw [show bk n (stay ep L) i = stay ep (bk n L i) from bk_filter n L i _]
  exact bk_other hj hi L
theorem goes_bk {n j : Nat} {ep : Int} (h : ep % (n : Int) = (j : Int)) (L : List Ent) : goes ep (bk n L j) = goes ep L := by
 unfold goes
 rw [bk_epoch h]
set_option maxHeartbeats 3200000 in
theorem due_row (b B n j g cp : Nat) (ss : List Value) (L : List Ent) (ep : Int) (w : World) (h : RingP w b B n ss L) (hs : ss[j]? = some (.slice (some ⟨g, 0, none⟩) (bk n L j).length cp)) (h0 : 0 ≤ ep) (h1 : ep ≤ 1099511627776) (hj : ep % (n : Int) = (j : Int)) (hL : L.length ≤ 100000) :
  Calls Tryz.prog 234 #[.pointer (some ⟨b, 0, none⟩), .int .i64 ep] w (DuePost w b B n j ss (.slice (some ⟨g, 0, none⟩) (bk n L j).length cp) L ep) := by
 have hjn : j < n := by have := (List.getElem?_eq_some_iff.1 hs).1; have := h.len; omega
 have hrow := h.row j _ hs
 have hq := bk_len n L j
 obtain ⟨x0, x1⟩ := h.cells hs
 have hnot := h.not hs
 have hcp := (row_of_owns hrow).2.1
 have hcp2 := (row_of_owns hrow).2.2.1
 unfold maxLen at hcp2
 have HN := Lib.hid (number_any b n j n (some ⟨B, 0, none⟩) ep w x0 h.pos h.top h0 h1 hj)
 have hgb : g ≠ b := fun e => hnot.1 (by rw [e]; rfl)
 have hgB : g ≠ B := fun e => hnot.2 (by rw [e]; rfl)
 have hBl := h.bks.lt
 have HH := Lib.hid h
 have HS := Lib.hid hs
 have HJ := Lib.hid hj
 obtain ⟨l, hl⟩ := named (bk n L j)
 rw [hl] at hrow hq hcp x1 HS ⊢
 obtain ⟨q, hqe⟩ := named (l.length)
 rw [hqe] at hrow hq hcp x1 HS ⊢
 have H0 : Hid (DueAt w w g cp q 0 0 ep l (.slice none 0 0)) := Lib.hid ⟨rfl, by simpa [stay] using row_of_owns hrow, World.ownsRow_nil _ _ _ _, Kept.refl _ _⟩
 have HLL := Lib.hid (And.intro hl hqe)
 have hj1 : ¬ (j : Int) < 0 := by omega
 have hj2 : ¬ (n : Int) ≤ (j : Int) := by omega
 have hj3 : (j : Int) < (n : Int) := by omega
 have hn4 : n ≤ 4096 := h.top
 have X0 := Lib.hid x0
 have X1 := Lib.hid x1
 clear h hs hrow hnot hj hl hqe
 obtain ⟨i0, hi0, hz0, hs0, hb0⟩ := int_app
 go_enter Tryz.func234, Tryz.ntmps234
 go_wp2_with fail
 refine HN.out.mono ?_
 rintro e w' ⟨rfl, rfl⟩
 clear HN
 go_wp2_with fail
 go_loopw [7, 8, 35] (fun s7 s8 s35 wr => ∃ k r : Nat, r ≤ k ∧ k ≤ q ∧ s35 = .int .i64 k ∧ s8 = .slice (some ⟨g, 0, none⟩) r cp ∧ Hid (DueAt w wr g cp q k r ep l s7)) (fun _ _ s35 _ => q - (intOf s35).toNat)
 case atStart => exact ⟨0, 0, by omega, by omega, rfl, rfl, H0⟩
 case round =>
  clear H0 x0 x1
  obtain ⟨k, r, hrk, hk, rfl, rfl, HD⟩ := hrel
  by_cases hlt : k < q
  ·obtain ⟨x, hx⟩ : ∃ x, l[k]? = some x := ⟨_, List.getElem?_eq_getElem (by have := HLL.out.2; omega)⟩
   have hd := HD.out
   have HRX : Hid (wr.rangeAt g (k * 2) (rowE x)) := Lib.hid (hd.row.at (by
    rw [List.getElem?_append_right (by have := hd.len; omega), hd.len, List.getElem?_drop, show r + (k - r) = k by omega]
    exact hx))
   have HE : Hid (Blk (wr.alloc (.cells (cellsE x) 271)) wr.heap.size 271 (cellsE x)) := Lib.hid (Blk.new _ _ _)
   have c0 : (wr.alloc (.cells (cellsE x) 271)).cell? ⟨wr.heap.size, 0, none⟩ = some (.int .i64 x.1) := HE.out.cell 0
   have c1 : (wr.alloc (.cells (cellsE x) 271)).cell? ⟨wr.heap.size, 1, none⟩ = some (.int .i64 x.2) := HE.out.cell 1
   have HX := Lib.hid hx
   have hk1 : ¬ (k : Int) < 0 := by omega
   have hk2 : ¬ (q : Int) ≤ (k : Int) := by omega
   have hk3 : (k : Int) < (q : Int) := by omega
   have hgl := hd.row.lt
   have hws := hd.kept.size
   have hgo := goes_len ep (l.take k)
   have hgo2 : (l.take k).length ≤ k := by rw [List.length_take]; omega
   clear hd hx
   by_cases heq : x.1 = ep
   ·have hb1 : (x.1 == ep) = true := by simpa using heq
    have HEQ := Lib.hid heq
    clear heq
    go_wp2_with (first | (refine wpList_load_ent rfl 271 _ rfl g (k * 2) rfl x _ HRX.out Tryz.underlying271 rfl infoE_08 ?_) | (refine wsr wr.heap.size (cellsE x) 271 (heap_alloc_new wr _) infoE_08 (cellsE_one x) ?_; rw [World.setRow_alloc_new]) | (at_builtin; (refine wpList_append_src _ rfl (.tmp 43) (.tmp 46) 24 rfl w.heap.size 3 i0 _ 1 8 Tryz.underlying24 hi0 hz0 hs0 hb0 rfl Nat.one_pos u7 (goes ep (l.take k)).length _ rfl ((HD.out.out.alloc _).alloc _) (some ⟨wr.heap.size + 1, 0, none⟩) 1 1 [.int .i64 x.2] rfl rfl (fun _ => ⟨_, rfl, by have := cell_one_new (wr.alloc (.cells (cellsE x) 271)) (.int .i64 x.2) 3; rwa [World.size_alloc] at this⟩) (by simp [Value.oneCell']) (by unfold maxLen; omega) (by omega) (by simp; omega) ?_; intro v1 w1 ho hg hv1)))
    have hZ : DueAt w w1 g cp q (k + 1) r ep l v1 := by
     have hd := HD.out
     have et := ent_snoc HX.out
     have k1 : Kept (fun i => u7.ownBlock = some i) wr w1 := ((Kept.refl _ wr).alloc _).alloc _ |>.trans (Kept.of_grown hg (S := fun i => u7.ownBlock = some i) (fun i hi => hi.symm)) (fun _ _ h => h)
     have hne : ∀ i, u7.ownBlock = some i → w.heap.size ≤ i := fun i hi => (hd.out.lt i hi).1
     have hgw : g < w.heap.size := by
      have := HH.out.row j _ HS.out
      exact (this.lt g rfl).2
     refine ⟨by rw [et, stay_snoc, if_pos HEQ.out]; exact hd.len, ?_, ?_, ?_⟩
     ·rw [et, stay_snoc, if_pos HEQ.out]
      exact hd.row.same (k1.block g hd.row.lt (fun h => by have := hne g h; omega))
     ·rw [et, goes_snoc, if_pos HEQ.out]
      simpa using ho
     ·exact hd.kept.trans (k1.more (T := fun i => w.heap.size ≤ i) (fun i _ h => hne i h)) (fun i hi h => by omega)
    have HZ := Lib.hid hZ
    clear ho hg hv1 hZ HD HRX HE c0 c1
    go_wp2
    go_roundw
    case rel => exact ⟨k + 1, r, by omega, by omega, by go_num, rfl, HZ⟩
    case measure => simp [intOf]; omega
   ·have hb1 : (x.1 == ep) = false := by simpa using heq
    have HEQ := Lib.hid heq
    have HT : Hid (((wr.alloc (.cells (cellsE x) 271)).alloc (.cells (cellsE x) 271)).there g (r * 2) 2 ∧ DueAt w (((wr.alloc (.cells (cellsE x) 271)).alloc (.cells (cellsE x) 271)).setCells g (r * 2) (rowE x)) g cp q (k + 1) (r + 1) ep l u7) := Lib.hid (by
     have hd := HD.out
     have et := ent_snoc HX.out
     have hB : Below wr.heap.size wr ((wr.alloc (.cells (cellsE x) 271)).alloc (.cells (cellsE x) 271)) := ((Below.refl _ _).alloc (Nat.le_refl _) _).alloc (by simp) _
     have hrow2 := hd.row.below hB
     have hrl : r < l.length := by have := HLL.out.2; omega
     have hgw : g < w.heap.size := by
      have := HH.out.row j _ HS.out
      exact (this.lt g rfl).2
     rw [List.drop_eq_getElem_cons hrl] at hrow2
     obtain ⟨t1, t2⟩ := hrow2.set hd.len x
     refine ⟨t2, ⟨by rw [et, stay_snoc, if_neg HEQ.out, List.length_append, hd.len]; rfl, ?_, ?_, ?_⟩⟩
     ·rw [et, stay_snoc, if_neg HEQ.out]
      simpa using t1
     ·rw [et, goes_snoc, if_neg HEQ.out]
      refine owns_same_08 ((hd.out.alloc (.cells (cellsE x) 271)).alloc (.cells (cellsE x) 271)) (fun i hi => ?_)
      have hil := (hd.out.lt i hi).1
      have kk : Kept (fun i => i = g) ((wr.alloc (.cells (cellsE x) 271)).alloc (.cells (cellsE x) 271)) (((wr.alloc (.cells (cellsE x) 271)).alloc (.cells (cellsE x) 271)).setCells g (r * 2) (rowE x)) := Kept.setCells _ _ _ (Kept.refl _ _) (.inl rfl)
      exact kk.block i (by have := (hd.out.lt i hi).2; simp; omega) (fun e => by have e : i = g := e; omega)
     ·exact Kept.setCells _ _ _ ((hd.kept.alloc _).alloc _) (.inl rfl))
    have hq2 : r + 1 ≤ cp := by omega
    clear heq
    go_wp2_with (first | (refine wpList_load_ent rfl 271 _ rfl g (k * 2) rfl x _ HRX.out Tryz.underlying271 rfl infoE_08 ?_) | (refine wsr wr.heap.size (cellsE x) 271 (heap_alloc_new wr _) infoE_08 (cellsE_one x) ?_; rw [World.setRow_alloc_new]) | (refine wpList_load_ent rfl 271 _ rfl wr.heap.size 0 rfl x _ HE.out.range Tryz.underlying271 rfl infoE_08 ?_) | (refine wpList_build1 rfl _ rfl x rfl ?_) | (at_builtin; refine wpList_append_fit rfl (.tmp 48) (.tmp 50) rfl g r cp (wr.alloc (.cells (cellsE x) 271)).heap.size x rfl rfl (new_row (wr.alloc (.cells (cellsE x) 271)) x 271) hq2 HT.out.1 ?_))
    go_roundw
    case rel => exact ⟨k + 1, r + 1, by omega, by omega, by go_num, rfl, Lib.hid HT.out.2⟩
    case measure => simp [intOf]; omega
  ·obtain rfl : k = q := by omega
   have hd := HD.out
   have e1 := HLL.out
   have hk0 : Kept (fun i => (Value.slice (some ⟨g, 0, none⟩) k cp).ownBlock = some i) w wr := hd.kept.more (fun i _ h => by rw [h]; rfl)
   have y0 := hd.kept.cell (p := ⟨b, 0, none⟩) (fun e => hgb e.symm) X0.out
   have y1 := hd.kept.cell (p := ⟨B, j, none⟩) (fun e => hgB e.symm) X1.out
   have z1 : wr.frozen? ⟨B, j, none⟩ = false := by
    rw [hd.kept.frozen (p := ⟨B, j, none⟩) (fun e => hgB e.symm) hBl]
    exact HH.out.bks.frozen j
   have HP : Hid (DuePost w b B n j ss (.slice (some ⟨g, 0, none⟩) k cp) L ep (.returned u7) (wr.setCell ⟨B, j, none⟩ (.slice (some ⟨g, 0, none⟩) r cp))) := Lib.hid (by
    have ho := hd.out
    have hlen := hd.len
    have hrw := hd.row
    rw [List.take_of_length_le (by omega)] at ho hlen hrw
    have ho2 : wr.ownsRow 0 271 2 (.slice (some ⟨g, 0, none⟩) r cp) (stay ep (bk n L j)).length (flat_08 (stay ep (bk n L j))) := by
     rw [e1.1, hlen]
     obtain ⟨r1, r2, r3, rest, r4, r5⟩ := hrw
     refine Row.owns (g := g) (w := wr) (cap := cp) ⟨hlen, by omega, r3, flat_08 (l.drop r) ++ rest, ?_, ?_⟩ (Nat.zero_le _)
     ·rw [List.length_append, flat_len_08, r4, List.length_drop, e1.2]
      omega
     ·rw [← List.append_assoc, ← flat_append_08]
      exact r5
    refine ⟨u7, .slice (some ⟨g, 0, none⟩) r cp, rfl, ?_, due_ring HH.out HS.out HJ.out hk0 ho2 rfl, rfl, ?_⟩
    ·rw [← e1.1, goes_bk HJ.out] at ho
     refine owns_same_08 ho (fun i hi => Below.heap_setCell _ _ _ _ (fun e => ?_))
     have e : i = B := e
     have := (ho.lt i hi).1
     omega
    ·exact (hk0.more (fun _ _ h => .inr h)).setCell (.inl (.inl rfl)) _)
   clear hd e1 hk0 HD
   go_wp2
   go_ret
   exact HP.out
end
section
set_option maxRecDepth 100000
open Go Go.RowKit Go.Deep
set_option maxHeartbeats 1600000 in
theorem due_bare (b B n j : Nat) (ss : List Value) (L : List Ent) (ep : Int) (w : World) (h : RingP w b B n ss L) (hs : ss[j]? = some (.slice none 0 0)) (h0 : 0 ≤ ep) (h1 : ep ≤ 1099511627776) (hj : ep % (n : Int) = (j : Int)) (hl : bk n L j = []) :
  Calls Tryz.prog 234 #[.pointer (some ⟨b, 0, none⟩), .int .i64 ep] w (DuePost w b B n j ss (.slice none 0 0) L ep) := by
 have hjn : j < n := by have := (List.getElem?_eq_some_iff.1 hs).1; have := h.len; omega
 obtain ⟨x0, x1⟩ := h.cells hs
 have HN := Lib.hid (number_any b n j n (some ⟨B, 0, none⟩) ep w x0 h.pos h.top h0 h1 hj)
 have hj1 : ¬ (j : Int) < 0 := by omega
 have hj2 : ¬ (n : Int) ≤ (j : Int) := by omega
 have hj3 : (j : Int) < (n : Int) := by omega
 have hn4 : n ≤ 4096 := h.top
 have z1 : w.frozen? ⟨B, j, none⟩ = false := h.bks.frozen j
 have HP : Hid (DuePost w b B n j ss (.slice none 0 0) L ep (.returned (.slice none 0 0)) (w.setCell ⟨B, j, none⟩ (.slice none 0 0))) := Lib.hid (by
  have hg : goes ep L = [] := by rw [← goes_bk hj, hl]; rfl
  refine ⟨_, .slice none 0 0, rfl, ?_, due_ring h hs hj (Kept.refl _ _) ?_ rfl, rfl, (Kept.refl _ _).setCell (.inl (.inl rfl)) _⟩
  ·rw [hg]; exact World.ownsRow_nil _ _ _ _
  ·rw [hl]; exact World.ownsRow_nil _ _ _ _)
 clear h hs hj hl
 go_enter Tryz.func234, Tryz.ntmps234
 go_wp2_with fail
 refine HN.out.mono ?_
 rintro e w' ⟨rfl, rfl⟩
 clear HN
 go_wp2_with fail
 go_loopw [7, 8, 35] (fun s7 s8 s35 wr => s7 = .slice none 0 0 ∧ s8 = .slice none 0 0 ∧ s35 = .int .i64 0 ∧ w = wr) (fun _ _ _ _ => 0)
 case atStart => exact ⟨rfl, rfl, rfl, rfl⟩
 case round =>
  obtain ⟨rfl, rfl, rfl, rfl⟩ := hrel
  go_wp2
  go_ret
  exact HP.out
theorem due_any (b n : Nat) (S : Nat → Prop) (L : List Ent) (ep : Int) (w : World) (h : Ring w b S n L) (h0 : 0 ≤ ep) (h1 : ep ≤ 1099511627776) (hL : L.length ≤ 100000) :
  Calls Tryz.prog 234 #[.pointer (some ⟨b, 0, none⟩), .int .i64 ep] w fun e w' => ∃ v S', e = .returned v ∧ w'.ownsRow w.heap.size 3 1 v (goes ep L).length ((goes ep L).map (Value.int .i64)) ∧ Ring w' b S' n (stay ep L) ∧ (∀ i, S' i → S i) ∧ Kept S w w' := by
 obtain ⟨B, ss, hp, hS⟩ := h
 obtain ⟨j, hj⟩ : ∃ j : Nat, ep % (n : Int) = (j : Int) := ⟨(ep % (n : Int)).toNat, by have := Int.emod_nonneg ep (b := (n : Int)) (by have := hp.pos; omega); omega⟩
 have hjn : j < n := by have := Int.emod_lt_of_pos ep (b := (n : Int)) (by have := hp.pos; omega); omega
 obtain ⟨s, hs⟩ := hp.get hjn
 have key : Calls Tryz.prog 234 #[.pointer (some ⟨b, 0, none⟩), .int .i64 ep] w (DuePost w b B n j ss s L ep) := by
  have hr := hp.row j s hs
  rcases hr.2 with ⟨h1, h2⟩ | ⟨g, cp, cur, h1, _⟩
  ·subst h1
   exact due_bare b B n j ss L ep w hp hs h0 ‹_› hj (List.eq_nil_of_length_eq_zero h2)
  ·subst h1
   exact due_row b B n j g cp ss L ep w hp hs h0 ‹_› hj hL
 refine key.mono ?_
 rintro e w' ⟨v, s', he, ho, h2, h3, h4⟩
 refine ⟨v, fun i => i = b ∨ i = B ∨ ∃ s : Value, s ∈ ss.set j s' ∧ s.ownBlock = some i, he, ho, ⟨B, _, h2, fun _ => Iff.rfl⟩, ?_, h4.more (fun i _ hi => ?_)⟩
 ·rintro i (rfl | rfl | ⟨t, ht, hq⟩)
  ·exact (hS _).2 (.inl rfl)
  ·exact (hS _).2 (.inr (.inl rfl))
  ·rcases List.mem_or_eq_of_mem_set ht with ht | rfl
   ·exact (hS i).2 (.inr (.inr ⟨t, ht, hq⟩))
   ·exact (hS i).2 (.inr (.inr ⟨s, List.mem_of_getElem? hs, by rw [← h3]; exact hq⟩))
 ·rcases hi with rfl | hi
  ·exact (hS _).2 (.inr (.inl rfl))
  ·exact (hS _).2 (.inr (.inr ⟨s, List.mem_of_getElem? hs, hi⟩))
end
section
open Go Go.RowKit Go.Deep
set_option maxRecDepth 100000
structure Sp (w wr : World) (g9 g11 : Nat) (a : Option Addr) (n cp : Nat) (v : Value) (L : List Val) (P : List Py) (c : Nat → Int) : Prop where
 cfg : Blk wr w.heap.size 30 (cellsOf c)
 aft : Blk wr g9 22 #[.slice a n cp]
 pay : Blk wr g11 51 #[v]
 own : wr.ownsRow (w.heap.size + 1) 68 7 (.slice a n cp) n (flat L)
 pys : wr.ownsRow (w.heap.size + 1) 252 3 v P.length (flatR Py.row P)
 n9 : w.heap.size < g9
 n11 : w.heap.size < g11
 below : Below w.heap.size w wr
section
variable {w wr w' : World} {g9 g11 : Nat} {a : Option Addr} {n cp : Nat} {v : Value} {L : List Val} {P : List Py} {c : Nat → Int}
theorem Sp.next (h : Sp w wr g9 g11 a n cp v L P c) (hb : Below wr.heap.size wr w') : Sp w w' g9 g11 a n cp v L P c :=
 ⟨h.cfg.below hb h.cfg.lt, h.aft.below hb h.aft.lt, h.pay.below hb h.pay.lt, ownsR_below h.own hb, ownsR_below h.pys hb, h.n9, h.n11, h.below.trans (hb.mono h.below.size)⟩
theorem Sp.not_pys (h : Sp w wr g9 g11 a n cp v L P c) {b t : Nat} {cs : Array Value} (hb : Blk wr b t cs) (ht : t ≠ 252) : ¬ v.ownBlock = some b := fun e => by
 obtain ⟨cur, h1, _⟩ := ownsR_blk h.pys e
 exact Blk.ne_ hb h1 ht rfl
theorem Sp.grown (h : Sp w wr g9 g11 a n cp v L P c) {v' : Value} {P' : List Py} (ho : w'.ownsRow (w.heap.size + 1) 252 3 v' P'.length (flatR Py.row P')) (k : Kept (fun i => v.ownBlock = some i) wr w') :
  Sp w (w'.setCell ⟨g11, 0, none⟩ v') g9 g11 a n cp v' L P' c ∧ Blk w' g11 51 #[v] := by
 have hp := h.pay.kept k (h.not_pys h.pay (by decide))
 have hc := h.cfg.kept k (h.not_pys h.cfg (by decide))
 have ha := h.aft.kept k (h.not_pys h.aft (by decide))
 have hr : w'.ownsRow (w.heap.size + 1) 68 7 (.slice a n cp) n (flat L) := ownsR_kept h.own k fun i hi => by
  obtain ⟨cur, h1, _⟩ := ownsR_blk h.own hi
  exact h.not_pys h1 (by decide)
 have hb : Below w.heap.size w w' := Kept.below h.below k (fun i hi => by
  obtain ⟨_, _, h1⟩ := ownsR_blk h.pys hi
  omega) h.below.size
 refine ⟨⟨hc.far (Blk.ne_ hc hp (by decide)) _, ha.far (Blk.ne_ ha hp (by decide)) _, hp.set_ 0 v', ownsR_same hr (fun i hi => ?_), ownsR_same ho (fun i hi => ?_), h.n9, h.n11, hb.setCell (Nat.le_of_lt h.n11) _⟩, hp⟩
 ·obtain ⟨cur, h1, _⟩ := ownsR_blk hr hi
  exact Below.heap_setCell w' _ _ i (Blk.ne_ h1 hp (by decide))
 ·obtain ⟨cur, h1, _⟩ := ownsR_blk ho hi
  exact Below.heap_setCell w' _ _ i (Blk.ne_ h1 hp (by decide))
end
end
section
set_option maxRecDepth 100000
open Go.RowKit
def fnum : Nat → Nat
 | 0 => 146
 | 1 => 148
 | 2 => 149
 | 3 => 150
 | 4 => 151
 | 5 => 153
 | 6 => 154
 | 7 => 155
 | 8 => 156
 | 9 => 157
 | 10 => 158
 | 11 => 159
 | 12 => 160
 | 13 => 161
 | 14 => 162
 | 15 => 163
 | 16 => 164
 | 17 => 165
 | 18 => 166
 | 19 => 167
 | _ => 0
def isI (k : Nat) : Bool := decide (k < 2 ∨ (10 ≤ k ∧ k < 18))
def pv (bc k : Nat) : Value := if isI k then .pointer (some ⟨bc, k, none⟩) else .pointer none
def qv (bc k : Nat) : Value := if isI k then .pointer none else .pointer (some ⟨bc, k, none⟩)
def ent (bp bc k : Nat) : Array Value := #[pv bc k, qv bc k, .func (.func (fnum k)) #[] #[.pointer (some ⟨bp, 0, none⟩)]]
theorem holds_any (k : Nat) (hk : k < 20) (bp bc : Nat) (c : Nat → Int) (w : World) (hp : w.cell? ⟨bp, 0, none⟩ = some (.pointer (some ⟨bc, 0, none⟩))) (hc : Blk w bc 30 (cellsOf c)) :
  Calls Tryz.prog (fnum k) #[.pointer (some ⟨bp, 0, none⟩)] w fun e w' => e = .returned (.bool (rightB c k)) ∧ ∃ n, w' = w.drewN n := by
 have : k = 0 ∨ k = 1 ∨ k = 2 ∨ k = 3 ∨ k = 4 ∨ k = 5 ∨ k = 6 ∨ k = 7 ∨ k = 8 ∨ k = 9 ∨ k = 10 ∨ k = 11 ∨ k = 12 ∨ k = 13 ∨ k = 14 ∨ k = 15 ∨ k = 16 ∨ k = 17 ∨ k = 18 ∨ k = 19 := by omega
 rcases this with rfl | rfl | rfl | rfl | rfl | rfl | rfl | rfl | rfl | rfl | rfl | rfl | rfl | rfl | rfl | rfl | rfl | rfl | rfl | rfl
 ·exact holds0 bp bc c w hp hc
 ·exact holds1 bp bc c w hp hc
 ·exact holds2 bp bc c w hp hc
 ·exact holds3 bp bc c w hp hc
 ·exact holds4 bp bc c w hp hc
 ·exact holds5 bp bc c w hp hc
 ·exact holds6 bp bc c w hp hc
 ·exact holds7 bp bc c w hp hc
 ·exact holds8 bp bc c w hp hc
 ·exact holds9 bp bc c w hp hc
 ·exact holds10 bp bc c w hp hc
 ·exact holds11 bp bc c w hp hc
 ·exact holds12 bp bc c w hp hc
 ·exact holds13 bp bc c w hp hc
 ·exact holds14 bp bc c w hp hc
 ·exact holds15 bp bc c w hp hc
 ·exact holds16 bp bc c w hp hc
 ·exact holds17 bp bc c w hp hc
 ·exact holds18 bp bc c w hp hc
 ·exact holds19 bp bc c w hp hc
theorem index_ent0 (bp bc : Nat) (w : World) : (Instr.index 178 (.agg (ents bp bc)) (.int .i64 (0 : Nat))).run Tryz.prog w = .ok (.agg (ent bp bc 0)) w := by kernel_rfl
theorem index_ent1 (bp bc : Nat) (w : World) : (Instr.index 178 (.agg (ents bp bc)) (.int .i64 (1 : Nat))).run Tryz.prog w = .ok (.agg (ent bp bc 1)) w := by kernel_rfl
theorem index_ent2 (bp bc : Nat) (w : World) : (Instr.index 178 (.agg (ents bp bc)) (.int .i64 (2 : Nat))).run Tryz.prog w = .ok (.agg (ent bp bc 2)) w := by kernel_rfl
theorem index_ent3 (bp bc : Nat) (w : World) : (Instr.index 178 (.agg (ents bp bc)) (.int .i64 (3 : Nat))).run Tryz.prog w = .ok (.agg (ent bp bc 3)) w := by kernel_rfl
theorem index_ent4 (bp bc : Nat) (w : World) : (Instr.index 178 (.agg (ents bp bc)) (.int .i64 (4 : Nat))).run Tryz.prog w = .ok (.agg (ent bp bc 4)) w := by kernel_rfl
theorem index_ent5 (bp bc : Nat) (w : World) : (Instr.index 178 (.agg (ents bp bc)) (.int .i64 (5 : Nat))).run Tryz.prog w = .ok (.agg (ent bp bc 5)) w := by kernel_rfl
theorem index_ent6 (bp bc : Nat) (w : World) : (Instr.index 178 (.agg (ents bp bc)) (.int .i64 (6 : Nat))).run Tryz.prog w = .ok (.agg (ent bp bc 6)) w := by kernel_rfl
theorem index_ent7 (bp bc : Nat) (w : World) : (Instr.index 178 (.agg (ents bp bc)) (.int .i64 (7 : Nat))).run Tryz.prog w = .ok (.agg (ent bp bc 7)) w := by kernel_rfl
theorem index_ent8 (bp bc : Nat) (w : World) : (Instr.index 178 (.agg (ents bp bc)) (.int .i64 (8 : Nat))).run Tryz.prog w = .ok (.agg (ent bp bc 8)) w := by kernel_rfl
theorem index_ent9 (bp bc : Nat) (w : World) : (Instr.index 178 (.agg (ents bp bc)) (.int .i64 (9 : Nat))).run Tryz.prog w = .ok (.agg (ent bp bc 9)) w := by kernel_rfl
theorem index_ent10 (bp bc : Nat) (w : World) : (Instr.index 178 (.agg (ents bp bc)) (.int .i64 (10 : Nat))).run Tryz.prog w = .ok (.agg (ent bp bc 10)) w := by kernel_rfl
theorem index_ent11 (bp bc : Nat) (w : World) : (Instr.index 178 (.agg (ents bp bc)) (.int .i64 (11 : Nat))).run Tryz.prog w = .ok (.agg (ent bp bc 11)) w := by kernel_rfl
theorem index_ent12 (bp bc : Nat) (w : World) : (Instr.index 178 (.agg (ents bp bc)) (.int .i64 (12 : Nat))).run Tryz.prog w = .ok (.agg (ent bp bc 12)) w := by kernel_rfl
theorem index_ent13 (bp bc : Nat) (w : World) : (Instr.index 178 (.agg (ents bp bc)) (.int .i64 (13 : Nat))).run Tryz.prog w = .ok (.agg (ent bp bc 13)) w := by kernel_rfl
theorem index_ent14 (bp bc : Nat) (w : World) : (Instr.index 178 (.agg (ents bp bc)) (.int .i64 (14 : Nat))).run Tryz.prog w = .ok (.agg (ent bp bc 14)) w := by kernel_rfl
theorem index_ent15 (bp bc : Nat) (w : World) : (Instr.index 178 (.agg (ents bp bc)) (.int .i64 (15 : Nat))).run Tryz.prog w = .ok (.agg (ent bp bc 15)) w := by kernel_rfl
theorem index_ent16 (bp bc : Nat) (w : World) : (Instr.index 178 (.agg (ents bp bc)) (.int .i64 (16 : Nat))).run Tryz.prog w = .ok (.agg (ent bp bc 16)) w := by kernel_rfl
theorem index_ent17 (bp bc : Nat) (w : World) : (Instr.index 178 (.agg (ents bp bc)) (.int .i64 (17 : Nat))).run Tryz.prog w = .ok (.agg (ent bp bc 17)) w := by kernel_rfl
theorem index_ent18 (bp bc : Nat) (w : World) : (Instr.index 178 (.agg (ents bp bc)) (.int .i64 (18 : Nat))).run Tryz.prog w = .ok (.agg (ent bp bc 18)) w := by kernel_rfl
theorem index_ent19 (bp bc : Nat) (w : World) : (Instr.index 178 (.agg (ents bp bc)) (.int .i64 (19 : Nat))).run Tryz.prog w = .ok (.agg (ent bp bc 19)) w := by kernel_rfl
theorem index_ent (bp bc k : Nat) (hk : k < 20) (w : World) : (Instr.index 178 (.agg (ents bp bc)) (.int .i64 k)).run Tryz.prog w = .ok (.agg (ent bp bc k)) w := by
 have : k = 0 ∨ k = 1 ∨ k = 2 ∨ k = 3 ∨ k = 4 ∨ k = 5 ∨ k = 6 ∨ k = 7 ∨ k = 8 ∨ k = 9 ∨ k = 10 ∨ k = 11 ∨ k = 12 ∨ k = 13 ∨ k = 14 ∨ k = 15 ∨ k = 16 ∨ k = 17 ∨ k = 18 ∨ k = 19 := by omega
 rcases this with rfl | rfl | rfl | rfl | rfl | rfl | rfl | rfl | rfl | rfl | rfl | rfl | rfl | rfl | rfl | rfl | rfl | rfl | rfl | rfl
 ·exact index_ent0 bp bc w
 ·exact index_ent1 bp bc w
 ·exact index_ent2 bp bc w
 ·exact index_ent3 bp bc w
 ·exact index_ent4 bp bc w
 ·exact index_ent5 bp bc w
 ·exact index_ent6 bp bc w
 ·exact index_ent7 bp bc w
 ·exact index_ent8 bp bc w
 ·exact index_ent9 bp bc w
 ·exact index_ent10 bp bc w
 ·exact index_ent11 bp bc w
 ·exact index_ent12 bp bc w
 ·exact index_ent13 bp bc w
 ·exact index_ent14 bp bc w
 ·exact index_ent15 bp bc w
 ·exact index_ent16 bp bc w
 ·exact index_ent17 bp bc w
 ·exact index_ent18 bp bc w
 ·exact index_ent19 bp bc w
theorem enter_any (k : Nat) (hk : k < 20) (args : Array Value) (w : World) : (callFunc (fnum k) args).run Tryz.prog w = .ok (.enter (fnum k) args) w := by
 have : k = 0 ∨ k = 1 ∨ k = 2 ∨ k = 3 ∨ k = 4 ∨ k = 5 ∨ k = 6 ∨ k = 7 ∨ k = 8 ∨ k = 9 ∨ k = 10 ∨ k = 11 ∨ k = 12 ∨ k = 13 ∨ k = 14 ∨ k = 15 ∨ k = 16 ∨ k = 17 ∨ k = 18 ∨ k = 19 := by omega
 rcases this with rfl | rfl | rfl | rfl | rfl | rfl | rfl | rfl | rfl | rfl | rfl | rfl | rfl | rfl | rfl | rfl | rfl | rfl | rfl | rfl
 ·exact Tryz.call146 args w
 ·exact Tryz.call148 args w
 ·exact Tryz.call149 args w
 ·exact Tryz.call150 args w
 ·exact Tryz.call151 args w
 ·exact Tryz.call153 args w
 ·exact Tryz.call154 args w
 ·exact Tryz.call155 args w
 ·exact Tryz.call156 args w
 ·exact Tryz.call157 args w
 ·exact Tryz.call158 args w
 ·exact Tryz.call159 args w
 ·exact Tryz.call160 args w
 ·exact Tryz.call161 args w
 ·exact Tryz.call162 args w
 ·exact Tryz.call163 args w
 ·exact Tryz.call164 args w
 ·exact Tryz.call165 args w
 ·exact Tryz.call166 args w
 ·exact Tryz.call167 args w
theorem ent_one (bp bc k : Nat) : (ent bp bc k).all (·.oneCell') = true := by
 unfold ent pv qv
 cases isI k <;> simp [Value.oneCell']
theorem info41 : (Tryz.prog.info? 177).map (·.size) = some 3 := by kernel_rfl
theorem check_any (c : Nat → Int) (w : World) :
  CallB 73 #[.agg (cellsOf c)] w (.int .i64 (chk c)) := by
 unfold cellsOf
 go_enter Tryz.func73, Tryz.ntmps73
 go_wp2_with (first
  | (go_at_call 119; refine (entries_any _ _).mono ?_; rintro e w1 ⟨rfl, hb1, hbel1⟩))
 go_loopw [6] (fun v wr => ∃ k : Nat, k ≤ 20 ∧ v = .int .i64 (k : Int) ∧ Before c k ∧ Blk wr w.heap.size 30 (cellsOf c) ∧ Blk wr (w.heap.size + 1) 180 #[.pointer (some ⟨w.heap.size, 0, none⟩)] ∧ Below w.heap.size w wr) (fun v _ => (21 - intOf v).toNat)
 case atStart =>
  refine ⟨0, by omega, rfl, before_zero c, (Blk.new w 30 (cellsOf c)).below hbel1 (by simp), by simpa using hb1, ((Below.refl _ _).alloc (Nat.le_refl _) _).trans (hbel1.mono (by simp))⟩
 case round =>
  obtain ⟨k, hk, rfl, hbf, hb, hp, hbel⟩ := hrel
  have hlt := hb.lt
  have hlt2 := hp.lt
  clear hb1 hbel1
  by_cases h20 : k < 20
  ·have hix : ∀ W, (Instr.index 178 (.agg (ents (w.heap.size + 1) w.heap.size)) (.int .i64 k)).run Tryz.prog W = .ok (.agg #[pv w.heap.size k, qv w.heap.size k, .func (.func (fnum k)) #[] #[.pointer (some ⟨w.heap.size + 1, 0, none⟩)]]) W := index_ent (w.heap.size + 1) w.heap.size k h20
   have hen := enter_any k h20
   cases hr : rightB c k with
   | false =>
    have R : Hid (∀ W (hp : W.cell? ⟨w.heap.size + 1, 0, none⟩ = some (.pointer (some ⟨w.heap.size, 0, none⟩))) (hc : Blk W w.heap.size 30 (cellsOf c)), _) := Lib.hid (fun W hp hc => holds_any k h20 (w.heap.size + 1) w.heap.size c W hp hc)
    rw [hr] at R
    have H := Lib.hid (chk_at h20 hbf hr)
    clear hr
    go_wp2_with (first
     | (refine wpList_store_row rfl _ _ _ rfl wr.heap.size #[pv w.heap.size k, qv w.heap.size k, .func (.func (fnum k)) #[] #[.pointer (some ⟨w.heap.size + 1, 0, none⟩)]] rfl rfl 177 _ (heap_alloc_new wr _) info41 rfl (ent_one _ _ _) ?_; rw [World.setRow_alloc_new])
     | (refine (R.out _ ((hp.alloc _).cell 0) (hb.alloc _)).mono ?_; rintro e w1 ⟨rfl, n, rfl⟩))
    go_ret
    exact ⟨ret_int H.out.symm, below_drewN (hbel.alloc (by omega) _) n⟩
   | true =>
    have R : Hid (∀ W (hp : W.cell? ⟨w.heap.size + 1, 0, none⟩ = some (.pointer (some ⟨w.heap.size, 0, none⟩))) (hc : Blk W w.heap.size 30 (cellsOf c)), _) := Lib.hid (fun W hp hc => holds_any k h20 (w.heap.size + 1) w.heap.size c W hp hc)
    rw [hr] at R
    have H := Lib.hid (before_succ hbf hr)
    clear hr
    go_wp2_with (first
     | (refine wpList_store_row rfl _ _ _ rfl wr.heap.size #[pv w.heap.size k, qv w.heap.size k, .func (.func (fnum k)) #[] #[.pointer (some ⟨w.heap.size + 1, 0, none⟩)]] rfl rfl 177 _ (heap_alloc_new wr _) info41 rfl (ent_one _ _ _) ?_; rw [World.setRow_alloc_new])
     | (refine (R.out _ ((hp.alloc _).cell 0) (hb.alloc _)).mono ?_; rintro e w1 ⟨rfl, n, rfl⟩))
    go_roundw
    case rel => exact ⟨k + 1, by omega, by go_num, H.out, (hb.alloc _).drewN n, (hp.alloc _).drewN n, below_drewN (hbel.alloc (by omega) _) n⟩
    case measure => simp [intOf]; omega
  ·obtain rfl : k = 20 := by omega
   have H := Lib.hid (chk_none hbf)
   go_wp2
   go_ret
   exact ⟨ret_int H.out.symm, hbel⟩
end
section
open Go Go.RowKit Go.Deep
set_option maxRecDepth 100000
theorem eq_snoc {α : Type} {la lb : List α} {k : Nat} {x y : α} (hx : la[k]? = some x) (hy : lb[k]? = some y) (h : la.take k = lb.take k) : (la.take (k + 1) = lb.take (k + 1) ↔ x = y) := by
 rw [List.take_add_one, List.take_add_one, hx, hy, h]
 simp
theorem ne_of_at {α : Type} {la lb : List α} {k : Nat} {x y : α} (hx : la[k]? = some x) (hy : lb[k]? = some y) (h : x ≠ y) : la ≠ lb := by
 rintro rfl
 rw [hx] at hy
 exact h (Option.some.inj hy)
theorem rangeAt_below {w w' : World} {b o : Nat} {cs : List Value} (h : w.rangeAt b o cs) (hl : b < w.heap.size) (hb : Below w.heap.size w w') : w'.rangeAt b o cs := rangeAt_same h (hb.block b hl)
end
end Go.Proofs.YtobgbcdgffgdhaaGreat
