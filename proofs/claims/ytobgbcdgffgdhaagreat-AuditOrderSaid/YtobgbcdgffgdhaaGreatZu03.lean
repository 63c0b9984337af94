/- Part 3 of 29: Words Class WrapC L06Add Same Kept Append Count Tail WrapT L03Cfg Wheel L04Ring L02Base L04OpsInt L04CopyInt L04GrowInt L04AllInt L04OneInt L09Cyc L09Cur L10Num L14Bat Fam L02Clock L04OpsDuo L04CopyDuo L04GrowDuo L04OpsReq. -/
import Derived.BigQuiet
import Derived.Deep.AppendLies
import Derived.DeepKeys4
import Derived.Laws.CopyOwn
import Derived.Lib.Hide
import Derived.Lib.SliceRun
import Derived.OpenShut
import Derived.StillTailTactics
import Derived.Test.YtobgbcdgffgdhaaGreatChecked
import Derived.WalkSmall
namespace Go.Proofs.YtobgbcdgffgdhaaGreat
set_option linter.unusedVariables false
set_option linter.unusedSimpArgs false
section
open Go.RowKit
theorem min_ite (a b : Int) : min a b = if b < a then b else a := by omega
def Blk (w : World) (g : Nat) (t : TypeId) (cs : Array Value) : Prop := w.heap[g]? = some (.cells cs t (0, 0))
section
variable {w w' : World} {g : Nat} {t : TypeId} {cs : Array Value}
theorem Blk.lt (h : Blk w g t cs) : g < w.heap.size := by
 rcases Nat.lt_or_ge g w.heap.size with hlt | hge
 ·exact hlt
 ·unfold Blk at h; rw [Array.getElem?_eq_none hge] at h; cases h
theorem Blk.cell (h : Blk w g t cs) (i : Nat) : w.cell? ⟨g, i, none⟩ = cs[i]? := cell_of_row w g i cs t (0, 0) h
theorem Blk.frozen (h : Blk w g t cs) (i : Nat) : w.frozen? ⟨g, i, none⟩ = false := by
 unfold Blk at h
 simp [World.frozen?, h]
theorem Blk.new (w : World) (t : TypeId) (cs : Array Value) : Blk (w.alloc (.cells cs t)) w.heap.size t cs := heap_alloc_new w _
theorem Blk.drew (h : Blk w g t cs) : Blk w.drew g t cs := h
theorem Blk.drewN (h : Blk w g t cs) (n : Nat) : Blk (w.drewN n) g t cs := h
theorem Blk.alloc (h : Blk w g t cs) (o : Obj) : Blk (w.alloc o) g t cs := (Below.heap_alloc w o g h.lt).trans h
theorem Blk.set_ (h : Blk w g t cs) (i : Nat) (u : Value) : Blk (w.setCell ⟨g, i, none⟩ u) g t (cs.setIfInBounds i u) := by
 unfold Blk at h ⊢
 simp [World.setCell, Array.getElem?_modify, h]
theorem Blk.far (h : Blk w g t cs) {p : Addr} (hp : g ≠ p.block) (u : Value) : Blk (w.setCell p u) g t cs := (Below.heap_setCell w p u g hp).trans h
theorem Blk.below {B : Nat} (h : Blk w g t cs) (hb : Below B w w') (hg : g < B) : Blk w' g t cs := (hb.block g hg).trans h
theorem Blk.grown {row : Option Nat} (h : Blk w g t cs) (hb : w.grownBy w' row) (hg : some g ≠ row) : Blk w' g t cs := (hb.block g h.lt hg).trans h
end
section
variable {P : Program} {f : FuncId} {args : Array Value} {w : World} {a n : Nat} {v : Value}
theorem quiet_left (h : Calls P f args (w.drewN n) fun e w' => e = .returned v ∧ w.drewN n = w') : Calls P f args (w.drewN n) fun e w'' => e = .returned v ∧ ∃ m, w'' = w.drewN m :=
 h.mono fun _ _ ⟨he, hm⟩ => ⟨he, n, hm.symm⟩
end
theorem only_refl (a : World) (row : Option Nat) : a.grownBy a row := ⟨rfl, rfl, rfl, Nat.le_refl _, fun _ _ _ => rfl⟩
theorem only_trans {a b c : World} {row : Option Nat} (h : a.grownBy b row) (k : b.grownBy c row) : a.grownBy c row :=
 ⟨k.os.trans h.os, k.tape.trans h.tape, k.output.trans h.output, Nat.le_trans h.size k.size, fun i hi hn => (k.block i (Nat.lt_of_lt_of_le hi h.size) hn).trans (h.block i hi hn)⟩
theorem only_drewN {a w : World} {row : Option Nat} (h : a.grownBy w row) (n : Nat) : a.grownBy (w.drewN n) row := ⟨h.os, h.tape, h.output, h.size, h.block⟩
theorem only_drew {a w : World} {row : Option Nat} (h : a.grownBy w row) : a.grownBy w.drew row := ⟨h.os, h.tape, h.output, h.size, h.block⟩
theorem only_alloc {a w : World} {row : Option Nat} (h : a.grownBy w row) (o : Obj) : a.grownBy (w.alloc o) row :=
 ⟨h.os, h.tape, h.output, Nat.le_trans h.size (by simp), fun i hi hne => (Below.heap_alloc w o i (Nat.lt_of_lt_of_le hi h.size)).trans (h.block i hi hne)⟩
theorem only_setCell {a w : World} {g : Nat} (h : a.grownBy w (some g)) {p : Addr} (hp : p.block = g ∨ a.heap.size ≤ p.block) (u : Value) : a.grownBy (w.setCell p u) (some g) :=
 ⟨h.os, h.tape, h.output, by simpa [World.setCell] using h.size, fun i hi hne => (Below.heap_setCell w p u i (by
  rintro rfl
  rcases hp with hp | hp
  ·exact hne (by rw [hp])
  ·omega)).trans (h.block i hi hne)⟩
theorem only_of_below {a w : World} (h : Below a.heap.size a w) (row : Option Nat) : a.grownBy w row := ⟨h.os, h.tape, h.output, h.size, fun i hi _ => h.block i hi⟩
theorem below_only {B g : Nat} {a w w' : World} (h : Below B a w) (hg : w.grownBy w' (some g)) (hB : B ≤ w.heap.size) (hr : B ≤ g) : Below B a w' :=
 h.grown hg hB (fun k hk => by injection hk with hk; omega)
theorem add_plain (b off i : Nat) : (⟨b, off, none⟩ : Addr).add i = ⟨b, off + i, none⟩ := by
 unfold Addr.add
 by_cases h : i = 0 <;> simp [h]
theorem cell_lt {w : World} {p : Addr} {v : Value} (h : w.cell? p = some v) : p.block < w.heap.size := by
 rcases Nat.lt_or_ge p.block w.heap.size with hl | hl
 ·exact hl
 ·simp [World.cell?, Array.getElem?_eq_none hl] at h
theorem ret_int {k : IntKind} {a b : Int} (h : a = b) : Ending.returned (.int k a) = .returned (.int k b) := by rw [h]
theorem ret_bool {a b : Bool} (h : a = b) : Ending.returned (.bool a) = .returned (.bool b) := by rw [h]
end
section
open Go.RowKit
section
variable {P : Program} {ops : Array Oper} {C : World → Prop} {Q : Act → Prop} {a : Act} {o : Oper} {rest : List Oper}
theorem q_val (v : Value) (hw : Region.wanted o (yielded ops a.tmps) = true) (hv : ∀ w, (execOp a.eval o).run P w = .ok (.value v) w) (h : wpQuiet P ops C Q rest (a.put o.dst v)) : wpQuiet P ops C Q (o :: rest) a := by
 unfold wpQuiet
 rw [if_pos hw]
 exact ⟨v, fun w _ => by unfold Oper.quietAt; rw [hv]; exact ⟨rfl, rfl⟩, h⟩
theorem q_valC (v : Value) (hw : Region.wanted o (yielded ops a.tmps) = true) (hv : ∀ w, C w → (execOp a.eval o).run P w = .ok (.value v) w) (h : wpQuiet P ops C Q rest (a.put o.dst v)) : wpQuiet P ops C Q (o :: rest) a := by
 unfold wpQuiet
 rw [if_pos hw]
 exact ⟨v, fun w hc => by unfold Oper.quietAt; rw [hv w hc]; exact ⟨rfl, rfl⟩, h⟩
theorem q_load (ty : TypeId) (x : Operand) (b : Nat) (t : TypeId) (cs : Array Value) (d : TypeDesc) (hw : Region.wanted o (yielded ops a.tmps) = true) (ho : o.op = .load ty x) (hx : a.eval x = .pointer (some ⟨b, 0, none⟩))
  (hC : ∀ w, C w → Blk w b t cs) (hu : P.underlying ty = some d) (hd : (match d with | .struct _ | .array _ _ => true | _ => false) = true) (hi : (P.info? ty).map (·.size) = some cs.size)
  (h : wpQuiet P ops C Q rest (a.put o.dst (.agg cs))) : wpQuiet P ops C Q (o :: rest) a := by
 refine q_valC (.agg cs) hw (fun w hc => ?_) h
 unfold execOp
 simp only [ho, hx, Instr.loadAt, Instr.sureAddr, Sem.run_bind, Sem.run_pure, Result.andThen_ok, run_loadVar_row w b t ty cs (0, 0) d (hC w hc) hu hd hi]
theorem q_call {dst : Option Tmp} {f : FuncId} {xs : Array Operand} {ats : Array TypeId} {ty : TypeId} {pos : String} {after : Array Edge} {guard : Option (Nat × Bool)} (v : Value) (vs : Array Value)
  (hw : Region.wanted { dst, op := .call { callee := .value (.func f), args := xs, argTypes := ats }, type := ty, pos, after, guard } (yielded ops a.tmps) = true)
  (hvs : #[] ++ xs.map a.eval ++ #[] = vs) (hcall : ∀ args w, (callFunc f args).run P w = .ok (.enter f args) w)
  (hC : ∀ w, C w → Calls P f vs w fun e w' => e = .returned v ∧ C w') (h : wpQuiet P ops C Q rest (a.put dst v)) :
  wpQuiet P ops C Q ({ dst, op := .call { callee := .value (.func f), args := xs, argTypes := ats }, type := ty, pos, after, guard } :: rest) a := by
 unfold wpQuiet
 rw [if_pos hw]
 refine ⟨v, fun w hc => ?_, h⟩
 unfold Oper.quietAt
 have e : execOp a.eval { dst, op := .call { callee := .value (.func f), args := xs, argTypes := ats }, type := ty, pos, after, guard } = callFunc f (#[] ++ xs.map a.eval ++ #[]) := rfl
 rw [e, hcall, hvs]
 exact ⟨rfl, hC w hc⟩
theorem wp_region_class {P : Program} {id : Nat} {Q : Exit → Act → World → Prop} {a : Act} {w : World} {l : List Oper} (C : World → Prop) (hm : P.follows .mixedOrders = true) (hB : Region.lexB .any l.toArray = true) (hC : C w.drew)
  (h : wpQuiet P l.toArray C (fun a' => ∀ w', C w' → Q .normal a' w') l a) : (Code.region id l.toArray true).wp P Q a w :=
 wp_region_quiet (C := C) hm hB hC (by simpa using h)
end
section
variable {P : Program} {ops : Array Oper} {Q : Exit → Act → World → Prop} {a : Act} {w : World} {rest : List Oper} {o : Oper}
theorem wpList_load_rowG (hw : Region.wanted o (yielded ops a.tmps) = true) (ty : TypeId) (x : Operand) (ho : o.op = .load ty x)
  (g : Nat) (hx : a.eval x = .pointer (some ⟨g, 0, none⟩)) (t : TypeId) (cs : Array Value) (fr : Nat × Nat) (d : TypeDesc) (hg : w.heap[g]? = some (.cells cs t fr))
  (hu : P.underlying ty = some d) (hd : (match d with | .struct _ | .array _ _ => true | _ => false) = true) (hi : (P.info? ty).map (·.size) = some cs.size)
  (h : wpList P ops Q rest (a.put o.dst (.agg cs)) w) : wpList P ops Q (o :: rest) a w := by
 unfold wpList
 rw [if_pos hw]
 exact .inl (wp_load_row ty x ho g hx t cs fr d hg hu hd hi h)
theorem wpList_valG (v : Value) (hw : Region.wanted o (yielded ops a.tmps) = true) (hv : (execOp a.eval o).run P w = .ok (.value v) w) (h : wpList P ops Q rest (a.put o.dst v) w) : wpList P ops Q (o :: rest) a w := by
 unfold wpList
 rw [if_pos hw]
 refine .inl ?_
 unfold Oper.wp
 rw [hv]
 exact h
end
end
section
open Go Go.RowKit
abbrev CallB (f : FuncId) (args : Array Value) (w : World) (v : Value) : Prop := Calls Tryz.prog f args w fun e w' => e = .returned v ∧ Below w.heap.size w w'
abbrev CallW (f : FuncId) (args : Array Value) (w : World) (v : Value) : Prop := Calls Tryz.prog f args w fun e w' => e = .returned v ∧ w = w'
abbrev CallD (f : FuncId) (args : Array Value) (w : World) (v : Value) : Prop := Calls Tryz.prog f args w fun e w' => e = .returned v ∧ ∃ m, w' = w.drewN m
theorem cel {w : World} {g : Nat} {t : TypeId} {cs : Array Value} (h : Blk w g t cs) (i : Nat) {v : Value} {r : List Value} (e : cs.toList.drop i = v :: r := by exact rfl) : w.cell? ⟨g, i, none⟩ = some v := by
 have h2 := congrArg (fun l : List Value => l[0]?) e
 simp only [List.getElem?_drop, Nat.add_zero, Array.getElem?_toList, List.getElem?_cons_zero] at h2
 exact (h.cell i).trans h2
theorem named {α : Sort _} (a : α) : ∃ x, a = x := ⟨_, rfl⟩
end
section
set_option maxRecDepth 100000
open Go.RowKit
def sumTo (z : List Int) : Nat → Int
 | 0 => 0
 | k + 1 => sumTo z k + z.getD k 0
def addOk (z : List Int) (n : Nat) : Bool := decide (sumTo z n ≤ 18446744073709551615)
def addQ (z : List Int) (n : Nat) : Int := if sumTo z n ≤ 18446744073709551615 then sumTo z n else 0
theorem add_yes {z : List Int} {n : Nat} (h : sumTo z n ≤ 18446744073709551615) : addOk z n = true ∧ addQ z n = sumTo z n := ⟨decide_eq_true h, if_pos h⟩
theorem add_not {z : List Int} {n : Nat} (h : ¬ sumTo z n ≤ 18446744073709551615) : addOk z n = false ∧ addQ z n = 0 := ⟨decide_eq_false h, if_neg h⟩
theorem sumTo_nonneg {z : List Int} (hz : ∀ i, 0 ≤ z.getD i 0) : ∀ n, 0 ≤ sumTo z n
 | 0 => Int.le_refl _
 | k + 1 => by have := sumTo_nonneg hz k; have := hz k; simp only [sumTo]; omega
theorem sumTo_mono {z : List Int} (hz : ∀ i, 0 ≤ z.getD i 0) (a : Nat) : ∀ d, sumTo z a ≤ sumTo z (a + d)
 | 0 => Int.le_refl _
 | d + 1 => by have := sumTo_mono hz a d; have := hz (a + d); rw [← Nat.add_assoc]; simp only [sumTo]; omega
theorem add64_law (x y : Int) (h0 : 0 ≤ x) (h1 : x ≤ 18446744073709551615) (h2 : 0 ≤ y) (h3 : y ≤ 18446744073709551615) (w : World) :
  (callFunc 144 #[.int .u64 x, .int .u64 y, .int .u64 0]).run Tryz.prog w =
   .ok (.value (.tuple #[.int .u64 ((x + y) % 18446744073709551616), .int .u64 ((x + y) / 18446744073709551616)])) w := by
 rw [run_callFunc_extern Tryz.func144 (by kernel_rfl) (by kernel_rfl) (by kernel_rfl) (e := add64Entry) (by kernel_rfl), run_add64 x y 0 (by omega) (by omega) (by omega) (by omega)]
 simp only [Result.andThen, Int.add_zero]
theorem refmax_any (w : World) : CallW 116 #[] w (.int .u64 18446744073709551615) := by
 go_enter Tryz.func116, Tryz.ntmps116
 go_wp2
 go_ret
 exact ⟨rfl, rfl⟩
theorem add_none (a : Option Addr) (cap : Nat) (w : World) :
  CallW 101 #[.slice a 0 cap] w (.tuple #[.int .u64 0, .bool true]) := by
 go_enter Tryz.func101, Tryz.ntmps101
 go_wp2
 go_loop [4, 11] (fun s4 s11 => s4 = .int .u64 0 ∧ s11 = .int .i64 0) (fun _ _ => 0)
 case atStart => exact ⟨rfl, rfl⟩
 case round =>
  obtain ⟨rfl, rfl⟩ := hrel
  go_wp2
  go_ret2
  exact ⟨rfl, rfl⟩
theorem refadd_none (a : Option Addr) (cap : Nat) (w : World) :
  CallW 67 #[.slice a 0 cap] w (.tuple #[.int .u64 0, .bool true]) := by
 go_enter Tryz.func67, Tryz.ntmps67
 go_wp2
 go_loop [4, 5] (fun s4 s5 => s4 = .int .u64 0 ∧ s5 = .int .i64 0) (fun _ _ => 0)
 case atStart => exact ⟨rfl, rfl⟩
 case round =>
  obtain ⟨rfl, rfl⟩ := hrel
  go_wp2
  go_ret2
  exact ⟨rfl, rfl⟩
theorem add_row (b off len cap : Nat) (z : List Int) (w : World) (hlen : len ≤ 9223372036854775807)
  (hc : ∀ i, i < len → w.cell? ⟨b, off + i, none⟩ = some (.int .u64 (z.getD i 0))) (hz : ∀ i, 0 ≤ z.getD i 0 ∧ z.getD i 0 ≤ 18446744073709551615) :
  CallW 101 #[.slice (some ⟨b, off, none⟩) len cap] w (.tuple #[.int .u64 (addQ z len), .bool (addOk z len)]) := by
 have hn := sumTo_nonneg (fun i => (hz i).1)
 have HC := Lib.hid hc
 have HZ := Lib.hid hz
 have HN := Lib.hid hn
 clear hc hz hn
 go_enter Tryz.func101, Tryz.ntmps101
 go_wp2
 go_loop [4, 11] (fun s4 s11 => ∃ (k : Nat) (t : Int), k ≤ len ∧ s11 = .int .i64 k ∧ s4 = .int .u64 t ∧ Hid (t = sumTo z k ∧ t ≤ 18446744073709551615)) (fun _ s11 => len - (intOf s11).toNat)
 case atStart => exact ⟨0, 0, by omega, rfl, rfl, Lib.hid ⟨rfl, by omega⟩⟩
 case round =>
  obtain ⟨k, t, hk, rfl, rfl, HT⟩ := hrel
  have t0 : 0 ≤ t := by rw [HT.out.1]; exact HN.out k
  have t1 := HT.out.2
  by_cases hlt : k < len
  ·have hcell := HC.out k hlt
   obtain ⟨y0, y1⟩ := HZ.out k
   have hs : sumTo z (k + 1) = t + z.getD k 0 := by rw [HT.out.1]; rfl
   generalize z.getD k 0 = y at *
   have HS := Lib.hid hs
   have hl := fun w => add64_law t y t0 t1 y0 y1 w
   by_cases hsum : t + y ≤ 18446744073709551615
   ·have e1 : (t + y) % 18446744073709551616 = t + y := by omega
    have e2 : (t + y) / 18446744073709551616 = 0 := by omega
    rw [e1, e2] at hl
    clear e1 e2 hs
    go_wp2
    go_round
    case rel => exact ⟨k + 1, t + y, by omega, by go_num, rfl, Lib.hid ⟨HS.out.symm, hsum⟩⟩
    case measure => simp [intOf]; omega
   ·have e2 : (t + y) / 18446744073709551616 = 1 := by omega
    have hbig : ¬ sumTo z len ≤ 18446744073709551615 := by
     have := sumTo_mono (fun i => (HZ.out i).1) (k + 1) (len - (k + 1))
     rw [show k + 1 + (len - (k + 1)) = len by omega, HS.out] at this
     omega
    have HB := Lib.hid (add_not hbig)
    rw [e2] at hl
    clear e2 hs hbig
    go_wp2
    go_ret2
    exact ⟨by rw [HB.out.1, HB.out.2]; rfl, rfl⟩
  ·obtain rfl : k = len := by omega
   have HB := Lib.hid (add_yes (z := z) (n := k) (by rw [← HT.out.1]; exact t1))
   have HE := Lib.hid HT.out.1
   clear hlt
   have hlt : ¬ k < k := by omega
   go_wp2
   go_ret2
   exact ⟨by rw [HB.out.1, HB.out.2, ← HE.out]; rfl, rfl⟩
theorem quiet_again {P : Program} {f : FuncId} {args : Array Value} {w : World} {a n : Nat} {v : Value}
  (h : Calls P f args (w.drewN (a + n)) fun e w' => e = .returned v ∧ w.drewN (a + n) = w') :
  Calls P f args (w.drewN (a + n)) fun e w'' => e = .returned v ∧ ∃ m, w'' = w.drewN (a + m) :=
 h.mono fun _ _ ⟨he, hm⟩ => ⟨he, n, hm.symm⟩
theorem refadd_row (b off len cap : Nat) (z : List Int) (w : World) (hlen : len ≤ 9223372036854775807)
  (hc : ∀ i, i < len → w.cell? ⟨b, off + i, none⟩ = some (.int .u64 (z.getD i 0))) (hz : ∀ i, 0 ≤ z.getD i 0 ∧ z.getD i 0 ≤ 18446744073709551615) :
  CallD 67 #[.slice (some ⟨b, off, none⟩) len cap] w (.tuple #[.int .u64 (addQ z len), .bool (addOk z len)]) := by
 have hn := sumTo_nonneg (fun i => (hz i).1)
 have HC := Lib.hid hc
 have HZ := Lib.hid hz
 have HN := Lib.hid hn
 clear hc hz hn
 go_enter Tryz.func67, Tryz.ntmps67
 go_wp2
 go_loopw [4, 5] (fun s4 s5 wr => ∃ (k m : Nat) (t : Int), k ≤ len ∧ s5 = .int .i64 k ∧ s4 = .int .u64 t ∧ wr = w.drewN m ∧ Hid (t = sumTo z k ∧ t ≤ 18446744073709551615)) (fun _ s5 _ => len - (intOf s5).toNat)
 case atStart => exact ⟨0, 0, 0, by omega, rfl, rfl, rfl, Lib.hid ⟨rfl, by omega⟩⟩
 case round =>
  obtain ⟨k, m, t, hk, rfl, rfl, rfl, HT⟩ := hrel
  have t0 : 0 ≤ t := by rw [HT.out.1]; exact HN.out k
  have t1 := HT.out.2
  by_cases hlt : k < len
  ·have hcell := HC.out k hlt
   obtain ⟨y0, y1⟩ := HZ.out k
   have hs : sumTo z (k + 1) = t + z.getD k 0 := by rw [HT.out.1]; rfl
   generalize z.getD k 0 = y at *
   have HS := Lib.hid hs
   clear hs
   by_cases hsum : t + y ≤ 18446744073709551615
   ·go_wp2
    go_quiet ((go_at_call 116; exact quiet_again (refmax_any _)))
    go_wp2
    go_roundw
    case rel => exact ⟨k + 1, _, t + y, by omega, by go_num, rfl, rfl, Lib.hid ⟨HS.out.symm, hsum⟩⟩
    case measure => simp [intOf]; omega
   ·have hbig : ¬ sumTo z len ≤ 18446744073709551615 := by
     have := sumTo_mono (fun i => (HZ.out i).1) (k + 1) (len - (k + 1))
     rw [show k + 1 + (len - (k + 1)) = len by omega, HS.out] at this
     omega
    have HB := Lib.hid (add_not hbig)
    clear hbig
    go_wp2
    go_quiet ((go_at_call 116; exact quiet_again (refmax_any _)))
    go_wp2
    go_ret2
    exact ⟨by rw [HB.out.1, HB.out.2]; rfl, m + nq, World.drewN_drewN _ _ _⟩
  ·obtain rfl : k = len := by omega
   have HB := Lib.hid (add_yes (z := z) (n := k) (by rw [← HT.out.1]; exact t1))
   have HE := Lib.hid HT.out.1
   clear hlt
   have hlt : ¬ k < k := by omega
   go_wp2
   go_ret2
   exact ⟨by rw [HB.out.1, HB.out.2, ← HE.out]; rfl, _, rfl⟩
end
section
open Go.RowKit
section
variable {P : Program} (w : World)
theorem plainKey_int {t : TypeId} {k : IntKind} (h : P.underlying t = some (.int k)) : P.plainKey t = true := by simp [Program.plainKey, h]
end
end
section
open Go.RowKit
structure Kept (S : Nat → Prop) (w w' : World) : Prop where
 os : w'.os = w.os
 tape : w'.tape = w.tape
 output : w'.output = w.output
 size : w.heap.size ≤ w'.heap.size
 block : ∀ i, i < w.heap.size → ¬ S i → w'.heap[i]? = w.heap[i]?
section
variable {S T : Nat → Prop} {a w w' c : World} {B g : Nat} {t : TypeId} {cs : Array Value}
theorem Kept.refl (S : Nat → Prop) (w : World) : Kept S w w := ⟨rfl, rfl, rfl, Nat.le_refl _, fun _ _ _ => rfl⟩
theorem Kept.trans (h : Kept S a w) (k : Kept T w c) (hT : ∀ i, i < a.heap.size → T i → S i) : Kept S a c :=
 ⟨k.os.trans h.os, k.tape.trans h.tape, k.output.trans h.output, Nat.le_trans h.size k.size, fun i hi hn => (k.block i (Nat.lt_of_lt_of_le hi h.size) (fun ht => hn (hT i hi ht))).trans (h.block i hi hn)⟩
theorem Kept.drewN (h : Kept S a w) (n : Nat) : Kept S a (w.drewN n) := ⟨h.os, h.tape, h.output, h.size, h.block⟩
theorem Kept.drew (h : Kept S a w) : Kept S a w.drew := ⟨h.os, h.tape, h.output, h.size, h.block⟩
theorem Kept.alloc (h : Kept S a w) (o : Obj) : Kept S a (w.alloc o) :=
 ⟨h.os, h.tape, h.output, Nat.le_trans h.size (by simp), fun i hi hn => (Below.heap_alloc w o i (Nat.lt_of_lt_of_le hi h.size)).trans (h.block i hi hn)⟩
theorem Kept.setCell (h : Kept S a w) {p : Addr} (hp : S p.block ∨ a.heap.size ≤ p.block) (u : Value) : Kept S a (w.setCell p u) :=
 ⟨h.os, h.tape, h.output, by simpa [World.setCell] using h.size, fun i hi hn => (Below.heap_setCell w p u i (by
  rintro rfl
  rcases hp with hp | hp
  ·exact hn hp
  ·omega)).trans (h.block i hi hn)⟩
theorem Kept.setRow (h : Kept S a w) {g : Nat} (hp : S g ∨ a.heap.size ≤ g) (cs : Array Value) : Kept S a (w.setRow g cs) :=
 ⟨h.os, h.tape, h.output, by simpa using h.size, fun i hi hn => (setRow_other w g i cs (by
  rintro rfl
  rcases hp with hp | hp
  ·exact hn hp
  ·omega)).trans (h.block i hi hn)⟩
theorem Kept.below (hb : Below B a w) (h : Kept S w w') (hS : ∀ i, S i → B ≤ i) (hB : B ≤ w.heap.size) : Below B a w' :=
 hb.trans ⟨h.os, h.tape, h.output, h.size, fun i hi => h.block i (by omega) (fun hs => by have := hS i hs; omega)⟩
theorem Kept.of_below (h : Below a.heap.size a w) : Kept S a w := ⟨h.os, h.tape, h.output, h.size, fun i hi _ => h.block i hi⟩
theorem Kept.of_grown {row : Option Nat} (h : a.grownBy w row) (hr : ∀ i, some i = row → S i) : Kept S a w := ⟨h.os, h.tape, h.output, h.size, fun i hi hn => h.block i hi (fun e => hn (hr i e))⟩
theorem Kept.more (h : Kept S a w) (hS : ∀ i, i < a.heap.size → S i → T i) : Kept T a w := ⟨h.os, h.tape, h.output, h.size, fun i hi hn => h.block i hi (fun hs => hn (hS i hi hs))⟩
theorem Blk.kept (h : Blk w g t cs) (k : Kept S w w') (hg : ¬ S g) : Blk w' g t cs := (k.block g h.lt hg).trans h
theorem Kept.cell (k : Kept S w w') {p : Addr} (hp : ¬ S p.block) {v : Value} (h : w.cell? p = some v) : w'.cell? p = some v :=
 (World.cell?_of_block (w := w) (k.block p.block (cell_lt h) hp)).trans h
theorem Kept.frozen (k : Kept S w w') {p : Addr} (hp : ¬ S p.block) (hb : p.block < w.heap.size) : w'.frozen? p = w.frozen? p := World.frozen?_of_block (w := w) (k.block p.block hb hp)
theorem Kept.grown {row : Option Nat} (h : Kept (fun _ => False) a w) (hg : w.grownBy w' row) (hr : ∀ i, row = some i → a.heap.size ≤ i) : Kept (fun _ => False) a w' :=
 h.trans (T := fun i => row = some i) ⟨hg.os, hg.tape, hg.output, hg.size, fun i hi hn => hg.block i hi (fun e => hn e.symm)⟩ (fun i hi e => by have := hr i e; omega)
theorem Blk.setRow (h : Blk w g t cs) (cs' : Array Value) : Blk (w.setRow g cs') g t cs' := setRow_heap w g cs cs' t (0, 0) h
theorem Blk.ne_ {g' : Nat} {t' : TypeId} {cs' : Array Value} (h : Blk w g t cs) (h' : Blk w g' t' cs') (hne : t ≠ t') : g ≠ g' := by
 rintro rfl
 unfold Blk at h h'
 rw [h] at h'
 injection h' with h'
 injection h' with _ ht
 exact hne ht
end
section
variable {P : Program}
theorem run_copy_rowK (w : World) (dT sT ty elem : TypeId) (g o dLen dCap : Nat) (a : Addr) (sLen sCap k : Nat) (cur : Array Value) (t : TypeId) (cs : List Value)
  (hu : P.underlying dT = some (.slice elem)) (hs : (P.info? elem).map (·.size) = some k)
  (hg : w.heap[g]? = some (.cells cur t (0, 0))) (hn : cs.length = Nat.min sLen dLen * k)
  (hsrc : ∀ j v, cs[j]? = some v → w.cell? (a.add j) = some v) (hfit : o + cs.length ≤ cur.size) (h1 : ∀ v ∈ cs, v.oneCell' = true) :
  (Builtin.copy_ #[dT, sT] ty #[.slice (some ⟨g, o, none⟩) dLen dCap, .slice (some a) sLen sCap]).run P w = .ok (goInt (Nat.min sLen dLen)) (w.setRow g (splice cur.toList o cs).toArray) := by
 have hl := run_loadCells_list (P := P) w a cs hsrc
 have hst := run_storeCells_at P g o t cs 0 cur w hg (by simpa using hfit) h1
 cases hq : P.info? elem with
 | none => simp [hq] at hs
 | some i =>
  have hi : i.size = k := by simpa [hq] using hs
  rw [hn] at hl
  simp [Builtin.copy_, run_underlying hu, Builtin.lenOf, Builtin.firstCells, sizeOf, typeInfo, hq, hi, hl, hst, splice]
theorem run_copy_noneK (w : World) (dT sT ty elem : TypeId) (d a : Option Addr) (dLen dCap sLen sCap : Nat) (hu : P.underlying dT = some (.slice elem)) (hs : ((P.info? elem).map (·.size)).isSome = true) (hn : Nat.min sLen dLen = 0) :
  (Builtin.copy_ #[dT, sT] ty #[.slice d dLen dCap, .slice a sLen sCap]).run P w = .ok (goInt 0) w := by
 cases hq : P.info? elem with
 | none => simp [hq] at hs
 | some i =>
  have hl : ∀ (x : Addr), (loadCells x 0).run P w = .ok #[] w := fun x => by simpa using run_loadCells_list (P := P) w x [] (by simp)
  cases d <;> cases a <;> simp [Builtin.copy_, run_underlying hu, Builtin.lenOf, Builtin.firstCells, sizeOf, typeInfo, hq, hn, storeCells, hl]
theorem wpList_copyK {w : World} {ops : Array Oper} {rest : List Oper} {o : Oper} {a : Act} {Q : Exit → Act → World → Prop} (hgd : o.guard = none) (d s : Operand) (dT sT : TypeId)
  (ho : o.op = .call { callee := .builtin .copy, args := #[d, s], argTypes := #[dT, sT] }) (elem : TypeId) (hu : P.underlying dT = some (.slice elem)) (k : Nat) (hk : 0 < k) (hsz : (P.info? elem).map (·.size) = some k)
  (dp sp : Option Addr) (dLen dCap sLen sCap : Nat) (hd : a.eval d = .slice dp dLen dCap) (hs : a.eval s = .slice sp sLen sCap)
  (g off : Nat) (cur : List Value) (t : TypeId) (hg : w.heap[g]? = some (.cells cur.toArray t (0, 0))) (cs : List Value) (m : Nat) (hm : m = Nat.min sLen dLen) (hn : cs.length = m * k)
  (hpos : 0 < cs.length → dp = some ⟨g, off, none⟩ ∧ ∃ ad, sp = some ad ∧ ∀ j v, cs[j]? = some v → w.cell? (ad.add j) = some v)
  (hfit : off + cs.length ≤ cur.length) (h1 : ∀ v ∈ cs, v.oneCell' = true)
  (h : ∀ w', Hid (w'.heap[g]? = some (.cells (splice cur off cs).toArray t (0, 0))) → Kept (fun i => i = g) w w' → w'.heap.size = w.heap.size → wpList P ops Q rest (a.put o.dst (goInt m)) w') :
  wpList P ops Q (o :: rest) a w := by
 refine wpList_plain hgd fun K hK => ?_
 subst hm
 by_cases h0 : cs.length = 0
 ·obtain rfl : cs = [] := List.eq_nil_of_length_eq_zero h0
  have hz : Nat.min sLen dLen = 0 := by
   simp only [List.length_nil] at hn
   rcases Nat.mul_eq_zero.1 hn.symm with h2 | h2
   ·exact h2
   ·omega
  have hrun := run_copy_noneK (P := P) w dT sT o.type elem dp sp dLen dCap sLen sCap hu (by rw [hsz]; rfl) hz
  unfold Oper.wp
  simp [execOp, ho, resolve, invoke, builtin, hd, hs, hrun, Result.andThen]
  have := h w (show _ = _ by simpa [splice] using hg) (Kept.refl _ _) rfl
  rw [hz] at this
  exact hK _ _ this
 ·obtain ⟨rfl, ad, rfl, hsrc⟩ := hpos (by omega)
  have hrun := run_copy_rowK (P := P) w dT sT o.type elem g off dLen dCap ad sLen sCap k cur.toArray t cs hu hsz hg hn hsrc (by simpa using hfit) h1
  unfold Oper.wp
  simp [execOp, ho, resolve, invoke, builtin, hd, hs, hrun, Result.andThen]
  exact hK _ _ (h _ (show _ = _ by simpa using setRow_heap w g _ _ t _ hg) (Kept.setRow (S := fun i => i = g) (Kept.refl _ _) (.inl rfl) _) (by simp))
theorem run_clear_rowK (w : World) (T ty elem : TypeId) (z : Value) (hu : P.underlying T = some (.slice elem)) (hv : ∀ w, (zeroValue elem).run P w = .ok z w) (h1 : ∀ v ∈ z.cells.toList, v.oneCell' = true) (g o n c : Nat) (hn : 0 < n) (cur : Array Value) (t : TypeId)
  (hg : w.heap[g]? = some (.cells cur t (0, 0))) (hfit : o + n * z.cells.size ≤ cur.size) :
  (Builtin.clear_ #[T] ty #[.slice (some ⟨g, o, none⟩) n c]).run P w = .ok (.tuple #[]) (w.setRow g (splice cur.toList o (Builtin.zeroCells z.cells n).toList).toArray) := by
 have hlen : (Builtin.zeroCells z.cells n).toList.length = n * z.cells.size := by simp [Builtin.zeroCells]
 have hone : ∀ v ∈ (Builtin.zeroCells z.cells n).toList, v.oneCell' = true := by
  intro v hv'
  simp only [Builtin.zeroCells, Array.toList_map, List.mem_map, Array.toList_range, List.mem_range] at hv'
  obtain ⟨i, hi, rfl⟩ := hv'
  have hpos : 0 < z.cells.size := by
   rcases Nat.eq_zero_or_pos z.cells.size with h0 | h0
   ·rw [h0, Nat.mul_zero] at hi; omega
   ·exact h0
  have hlt : i % z.cells.size < z.cells.size := Nat.mod_lt _ hpos
  refine h1 _ ?_
  rw [getElem!_pos z.cells _ hlt]
  exact Array.getElem_mem_toList hlt
 have hst := run_storeCells_at P g o t (Builtin.zeroCells z.cells n).toList 0 cur w hg (by simp only [Nat.add_zero]; rw [hlen]; exact hfit) hone
 obtain ⟨m, rfl⟩ : ∃ m, n = m + 1 := ⟨n - 1, by omega⟩
 simp only [Nat.add_zero] at hst
 simp [Builtin.clear_, run_underlying hu, hv, hst, splice]
theorem wpList_clearK {w : World} {ops : Array Oper} {rest : List Oper} {o : Oper} {a : Act} {Q : Exit → Act → World → Prop} (hgd : o.guard = none) (s : Operand) (T : TypeId)
  (ho : o.op = .call { callee := .builtin .clear, args := #[s], argTypes := #[T] }) (elem : TypeId) (hu : P.underlying T = some (.slice elem)) (z : Value) (hv : ∀ w, (zeroValue elem).run P w = .ok z w) (h1 : ∀ v ∈ z.cells.toList, v.oneCell' = true)
  (g off n c : Nat) (hs : a.eval s = .slice (some ⟨g, off, none⟩) n c) (hn : 0 < n) (cur : List Value) (t : TypeId) (hg : w.heap[g]? = some (.cells cur.toArray t (0, 0))) (hfit : off + n * z.cells.size ≤ cur.length)
  (h : ∀ w', Hid (w'.heap[g]? = some (.cells (splice cur off (Builtin.zeroCells z.cells n).toList).toArray t (0, 0))) → Kept (fun i => i = g) w w' → wpList P ops Q rest (a.put o.dst (.tuple #[])) w') :
  wpList P ops Q (o :: rest) a w := by
 refine wpList_plain hgd fun K hK => ?_
 have hrun := run_clear_rowK (P := P) w T o.type elem z hu hv h1 g off n c hn cur.toArray t hg (by simpa using hfit)
 unfold Oper.wp
 simp [execOp, ho, resolve, invoke, builtin, hs, hrun, Result.andThen]
 exact hK _ _ (h _ (show _ = _ by simpa using setRow_heap w g _ _ t _ hg) (Kept.setRow (S := fun i => i = g) (Kept.refl _ _) (.inl rfl) _))
end
end
section
open Go Go.RowKit
section
variable {P : Program} (w : World)
theorem run_append_of_none (base : Nat) (t ty e : TypeId) (i : TypeInfo) (size : Nat) (ht : P.underlying t = some (.slice e)) (hi : P.info? e = some i)
  (v : Value) (n : Nat) (xs : List Value) (hown : w.ownsRow base e size v n xs) (c : Nat) : (Builtin.append_ #[t, t] ty #[v, .slice none 0 c]).run P w = .ok v w := by
 rcases hown.2 with ⟨rfl, rfl⟩ | ⟨g, cap, cur, rfl, _, _, hnc, _⟩
 ·simp [Builtin.append_, run_underlying ht, sizeOf, typeInfo, hi, Builtin.lenOf, Builtin.firstCells]
 ·simp [Builtin.append_, run_underlying ht, sizeOf, typeInfo, hi, Builtin.lenOf, Builtin.firstCells, hnc, storeCells]
theorem run_append_src (base : Nat) (t ty e : TypeId) (i : TypeInfo) (z : Value) (size bytes : Nat) (ht : P.underlying t = some (.slice e)) (hi : P.info? e = some i) (hz : i.zero = some z)
  (hsize : i.size = size) (hby : i.bytes = bytes) (hzs : z.cells.size = size) (hsz : 0 < size)
  (v : Value) (n : Nat) (xs : List Value) (hown : w.ownsRow base e size v n xs)
  (A : Option Addr) (m c : Nat) (news : List Value) (hl : news.length = m * size) (hr : 0 < m → ∃ ad, A = some ad ∧ ∀ j u, news[j]? = some u → w.cell? (ad.add j) = some u) (h1 : ∀ u ∈ news, u.oneCell' = true)
  (h63 : n + m ≤ maxLen) (hbytes : (n + m) * bytes ≤ 140737488355328) (hbase : base ≤ w.heap.size) :
  ∃ v' w', (Builtin.append_ #[t, t] ty #[v, .slice A m c]).run P w = .ok v' w' ∧ w'.ownsRow base e size v' (n + m) (xs ++ news) ∧ w.grownBy w' v.ownBlock ∧
   (v'.ownBlock = v.ownBlock ∨ v'.ownBlock = some w.heap.size) := by
 rcases A with _ | ad
 ·have hm : m = 0 := by
   rcases Nat.eq_zero_or_pos m with h0 | h0
   ·exact h0
   ·obtain ⟨ad, h, _⟩ := hr h0
    cases h
  subst hm
  have hn : news = [] := List.eq_nil_of_length_eq_zero (by simpa using hl)
  subst hn
  exact ⟨v, w, run_append_of_none w base t ty e i size ht hi v n xs hown c, by simpa using hown, World.grownBy.refl w _, .inl rfl⟩
 ·have hcells : ∀ j u, news[j]? = some u → w.cell? (ad.add j) = some u := by
   intro j u hu
   rcases Nat.eq_zero_or_pos m with h0 | h0
   ·subst h0
    have hn : news = [] := List.eq_nil_of_length_eq_zero (by simpa using hl)
    subst hn
    simp at hu
   ·obtain ⟨ad', h, hc⟩ := hr h0
    injection h with h
    subst h
    exact hc j u hu
  obtain ⟨v', w', hrun, h2, h3, _, h5⟩ := run_append_own_at (P := P) w base t ty e i z size bytes ht hi hz hsize hby hzs hsz v n xs hown ad m c news hl hcells h1 h63 hbytes hbase
  exact ⟨v', w', hrun, h2, h3, h5⟩
theorem wp_append_src {o : Oper} {a : Act} {K : Act → World → Prop} {Q : Exit → Act → World → Prop} (s x : Operand) (t : TypeId)
  (ho : o.op = .call { callee := .builtin .append, args := #[s, x], argTypes := #[t, t] })
  (base : Nat) (e : TypeId) (i : TypeInfo) (z : Value) (size bytes : Nat) (ht : P.underlying t = some (.slice e)) (hi : P.info? e = some i) (hz : i.zero = some z)
  (hsize : i.size = size) (hby : i.bytes = bytes) (hzs : z.cells.size = size) (hsz : 0 < size)
  (v : Value) (n : Nat) (xs : List Value) (hs : a.eval s = v) (hown : w.ownsRow base e size v n xs)
  (A : Option Addr) (m c : Nat) (news : List Value) (hx : a.eval x = .slice A m c) (hl : news.length = m * size) (hr : 0 < m → ∃ ad, A = some ad ∧ ∀ j u, news[j]? = some u → w.cell? (ad.add j) = some u) (h1 : ∀ u ∈ news, u.oneCell' = true)
  (h63 : n + m ≤ maxLen) (hbytes : (n + m) * bytes ≤ 140737488355328) (hbase : base ≤ w.heap.size)
  (h : ∀ v' w', w'.ownsRow base e size v' (n + m) (xs ++ news) → w.grownBy w' v.ownBlock → (v'.ownBlock = v.ownBlock ∨ v'.ownBlock = some w.heap.size) → K (a.put o.dst v') w') : o.wp P a w K Q := by
 obtain ⟨v', w', hrun, h2, h3, h4⟩ := run_append_src (P := P) w base t o.type e i z size bytes ht hi hz hsize hby hzs hsz v n xs hown A m c news hl hr h1 h63 hbytes hbase
 unfold Oper.wp execOp
 simp only [ho, resolve, invoke, builtin, Sem.run_bind, Sem.run_pure, Result.andThen_ok, List.map_toArray, List.map_cons, List.map_nil, hs, hx, hrun]
 exact h v' w' h2 h3 h4
theorem wpList_append_src {ops : Array Oper} {rest : List Oper} {o : Oper} {a : Act} {Q : Exit → Act → World → Prop} (hgd : o.guard = none) (s x : Operand) (t : TypeId)
  (ho : o.op = .call { callee := .builtin .append, args := #[s, x], argTypes := #[t, t] })
  (base : Nat) (e : TypeId) (i : TypeInfo) (z : Value) (size bytes : Nat) (ht : P.underlying t = some (.slice e)) (hi : P.info? e = some i) (hz : i.zero = some z)
  (hsize : i.size = size) (hby : i.bytes = bytes) (hzs : z.cells.size = size) (hsz : 0 < size)
  (v : Value) (n : Nat) (xs : List Value) (hs : a.eval s = v) (hown : w.ownsRow base e size v n xs)
  (A : Option Addr) (m c : Nat) (news : List Value) (hx : a.eval x = .slice A m c) (hl : news.length = m * size) (hr : 0 < m → ∃ ad, A = some ad ∧ ∀ j u, news[j]? = some u → w.cell? (ad.add j) = some u) (h1 : ∀ u ∈ news, u.oneCell' = true)
  (h63 : n + m ≤ maxLen) (hbytes : (n + m) * bytes ≤ 140737488355328) (hbase : base ≤ w.heap.size)
  (h : ∀ v' w', w'.ownsRow base e size v' (n + m) (xs ++ news) → w.grownBy w' v.ownBlock → (v'.ownBlock = v.ownBlock ∨ v'.ownBlock = some w.heap.size) → wpList P ops Q rest (a.put o.dst v') w') : wpList P ops Q (o :: rest) a w :=
 wpList_plain hgd fun _ hK => wp_append_src w s x t ho base e i z size bytes ht hi hz hsize hby hzs hsz v n xs hs hown A m c news hx hl hr h1 h63 hbytes hbase fun v' w' h2 h3 h4 => hK _ _ (h v' w' h2 h3 h4)
end
theorem owns_empty {w : World} {base p : Nat} {e : TypeId} {size : Nat} (h : Blk w p e #[]) (hb : base ≤ p) : w.ownsRow base e size (.slice (some ⟨p, 0, none⟩) 0 0) 0 [] :=
 ⟨by simp, .inr ⟨p, 0, #[], rfl, hb, h, by omega, by unfold maxLen; omega, by simp, by simp⟩⟩
end
section
open Go Go.RowKit Go.Maps
open Go.ChangeMaps (setBlock heap_setBlock_same heap_setBlock_other)
def CntAt (w : World) (m : Nat) (c : Int → Int) : Prop :=
 ∃ es clock, w.heap[m]? = some (.map es clock) ∧ (∀ e ∈ es.toList, ∃ q : Int, (Lit.int .i64 q).wf = true ∧ e.key = .int .i64 q ∧ e.val = .int .i64 (c q)) ∧ (es.toList.map (·.key)).Nodup ∧ ∀ q, c q ≠ 0 → ∃ e ∈ es.toList, e.key = .int .i64 q
def upd (c : Int → Int) (q v : Int) : Int → Int := fun x => if x = q then v else c x
section
variable {P : Program} {w w' : World} {m B : Nat} {c : Int → Int} {t k e : TypeId}
theorem CntAt.lt (h : CntAt w m c) : m < w.heap.size := by
 obtain ⟨es, clock, hb, _⟩ := h
 exact (Array.getElem?_eq_some_iff.1 hb).1
theorem CntAt.same (h : CntAt w m c) (hb : w'.heap[m]? = w.heap[m]?) : CntAt w' m c := by
 obtain ⟨es, clock, h1, h2⟩ := h
 exact ⟨es, clock, hb.trans h1, h2⟩
theorem CntAt.drewN (h : CntAt w m c) (n : Nat) : CntAt (w.drewN n) m c := h
theorem CntAt.drew (h : CntAt w m c) : CntAt w.drew m c := h
theorem CntAt.alloc (h : CntAt w m c) (o : Obj) : CntAt (w.alloc o) m c := h.same (Below.heap_alloc w o m h.lt)
theorem CntAt.grown {row : Option Nat} (h : CntAt w m c) (hg : w.grownBy w' row) (hne : some m ≠ row) : CntAt w' m c := h.same (hg.block m h.lt hne)
theorem CntAt.setCell (h : CntAt w m c) {p : Addr} (hp : m ≠ p.block) (u : Value) : CntAt (w.setCell p u) m c := h.same (Below.heap_setCell w p u m hp)
theorem CntAt.congr {c' : Int → Int} (h : CntAt w m c) (hc : ∀ q, c q = c' q) : CntAt w m c' := by
 obtain rfl : c = c' := funext hc
 exact h
theorem cntAt_made (w : World) : CntAt (w.alloc (.map #[] 0)) w.heap.size (fun _ => 0) := ⟨#[], 0, (MapKept.heap_alloc w _).1, by simp, by simp, fun q h => absurd rfl h⟩
theorem CntAt.keys {es : Array MapEntry} (hk : P.underlying k = some (.int .i64)) (h : ∀ e ∈ es.toList, ∃ q : Int, (Lit.int .i64 q).wf = true ∧ e.key = .int .i64 q ∧ e.val = .int .i64 (c q)) : ∀ x ∈ es.toList, ∃ l, keyOf P k x.key = some l := fun x hx => by
 obtain ⟨q, hq, h1, _⟩ := h x hx
 exact ⟨_, by rw [h1]; exact keyOf_int_mk hk hq⟩
theorem CntAt.lookup (h : CntAt w m c) (hk : P.underlying k = some (.int .i64)) (ht : P.underlying t = some (.map k e)) (hz : (zeroValue e).run P w = .ok (.int .i64 0) w) {q : Int} (hq : (Lit.int .i64 q).wf = true) :
  (Instr.lookup t (.map (some m)) (.int .i64 q) false).run P w = .ok (.int .i64 (c q)) w := by
 obtain ⟨es, clock, hb, h1, h2, h3⟩ := h
 have K := int_keyed hk
 have hkey := keyOf_int_mk hk hq
 rcases K.find w hkey es.toList (CntAt.keys hk h1) with ⟨f1, f2⟩ | ⟨j, e0, f1, f2, f3⟩
 ·have hc : c q = 0 := by
   rcases Decidable.em (c q = 0) with h0 | h0
   ·exact h0
   ·obtain ⟨x, hx, hxk⟩ := h3 q h0
    exact absurd hxk (f2 x hx)
  rw [hc]
  simp [Instr.lookup, run_underlying ht, MapKept.run_getObj_map hb, K.check w _ hkey, f1, hz, Result.andThen]
 ·obtain ⟨q', _, e1, e2⟩ := h1 e0 (List.mem_of_getElem? f2)
  rw [f3] at e1
  injection e1 with _ e1
  subst e1
  simp [Instr.lookup, run_underlying ht, MapKept.run_getObj_map hb, K.check w _ hkey, f1, e2, Result.andThen]
theorem CntAt.update (h : CntAt w m c) (hk : P.underlying k = some (.int .i64)) (ht : P.underlying t = some (.map k e)) {q v : Int} (hq : (Lit.int .i64 q).wf = true) :
  ∃ w', (Instr.mapUpdate t (.map (some m)) (.int .i64 q) (.int .i64 v)).run P w = .ok () w' ∧ CntAt w' m (upd c q v) ∧ w.grownBy w' (some m) := by
 obtain ⟨es, clock, hb, h1, h2, h3⟩ := h
 have K := int_keyed hk
 have hkey := keyOf_int_mk hk hq
 have hg : ∀ es' clock', w.grownBy (setBlock w m (.map es' clock')) (some m) := fun es' clock' => ⟨rfl, rfl, rfl, by simp [setBlock], fun i _ hi => heap_setBlock_other hb _ (fun e => hi (by rw [e]))⟩
 rcases K.find w hkey es.toList (CntAt.keys hk h1) with ⟨f1, f2⟩ | ⟨j, e0, f1, f2, f3⟩
 ·refine ⟨setBlock w m (.map (es.push ⟨.int .i64 q, .int .i64 v, clock⟩) (clock + 1)), ?_, ⟨_, _, heap_setBlock_same hb _, fun x hx => ?_, ?_, fun q' hq' => ?_⟩, hg _ _⟩
  ·simp [Instr.mapUpdate, run_underlying ht, MapKept.run_getObj_map hb, K.check w false hkey, f1, MapKept.run_setObj_map _ hb, Result.andThen, setBlock]
  ·simp only [Array.toList_push, List.mem_append, List.mem_singleton] at hx
   rcases hx with hx | rfl
   ·obtain ⟨q', w1, e1, e2⟩ := h1 x hx
    have hne : q' ≠ q := by rintro rfl; exact f2 x hx e1
    exact ⟨q', w1, e1, by simp [upd, hne, e2]⟩
   ·exact ⟨q, hq, rfl, by simp [upd]⟩
  ·rw [Array.toList_push, List.map_append, List.map_singleton]
   refine List.nodup_append.2 ⟨h2, by simp, fun a ha b hb' => ?_⟩
   obtain ⟨x, hx, rfl⟩ := List.mem_map.1 ha
   obtain rfl := List.mem_singleton.1 hb'
   exact f2 x hx
  ·by_cases hqq : q' = q
   ·subst hqq
    exact ⟨_, by rw [Array.toList_push]; exact List.mem_append_right _ (List.mem_singleton.2 rfl), rfl⟩
   ·obtain ⟨x, hx, hxk⟩ := h3 q' (by simpa [upd, hqq] using hq')
    exact ⟨x, by rw [Array.toList_push]; exact List.mem_append_left _ hx, hxk⟩
 ·have hj : es[j]? = some e0 := by simpa using f2
  have hjl : j < es.toList.length := (List.getElem?_eq_some_iff.1 f2).1
  have hlist : (es.modify j (fun e' => { e' with key := .int .i64 q, val := .int .i64 v })).toList = es.toList.set j { e0 with key := .int .i64 q, val := .int .i64 v } := by rw [Array.toList_modify, Go.ChangeMaps.modify_eq_set _ _ _ _ f2]
  have hkeys : ((es.modify j (fun e' => { e' with key := .int .i64 q, val := .int .i64 v })).toList.map (·.key)) = es.toList.map (·.key) := by
   rw [hlist, List.map_set]
   refine List.ext_getElem? fun i => ?_
   rw [List.getElem?_set]
   split
   ·rename_i hi
    subst hi
    have hjs : j < es.size := by simpa using hjl
    have hj2 : es.toList[j]'hjl = e0 := by simpa [List.getElem?_eq_getElem hjl] using f2
    simp [hjs]
    simp at hj2
    rw [hj2, f3]
   ·rfl
  refine ⟨setBlock w m (.map (es.modify j (fun e' => { e' with key := .int .i64 q, val := .int .i64 v })) clock), ?_, ⟨_, _, heap_setBlock_same hb _, fun x hx => ?_, by rw [hkeys]; exact h2, fun q' hq' => ?_⟩, hg _ _⟩
  ·simp [Instr.mapUpdate, run_underlying ht, MapKept.run_getObj_map hb, K.check w false hkey, f1, hj, f3, K.stays w hkey, MapKept.run_setObj_map _ hb, Result.andThen, setBlock]
  ·rw [hlist] at hx
   obtain ⟨i, hi, ex⟩ := List.getElem_of_mem hx
   rw [List.getElem_set] at ex
   split at ex
   ·subst ex
    exact ⟨q, hq, rfl, by simp [upd]⟩
   ·rename_i hne
    have hi' : i < es.toList.length := by simpa using hi
    obtain ⟨q', w1, e1, e2⟩ := h1 x (ex ▸ List.getElem_mem hi')
    have hne' : q' ≠ q := by
     rintro rfl
     have hn := List.pairwise_iff_getElem.1 h2
     have a1 : (es.toList.map (·.key))[i]? = some (.int .i64 q') := by rw [List.getElem?_map, List.getElem?_eq_getElem hi', ex]; simp [e1]
     have a2 : (es.toList.map (·.key))[j]? = some (.int .i64 q') := by rw [List.getElem?_map, f2]; simp [f3]
     obtain ⟨l1, e3⟩ := List.getElem?_eq_some_iff.1 a1
     obtain ⟨l2, e4⟩ := List.getElem?_eq_some_iff.1 a2
     rcases Nat.lt_or_gt_of_ne hne with hlt | hlt
     ·exact hn j i l2 l1 hlt (e4.trans e3.symm)
     ·exact hn i j l1 l2 hlt (e3.trans e4.symm)
    exact ⟨q', w1, e1, by simp [upd, hne', e2]⟩
  ·have hk' : (.int .i64 q' : Value) ∈ es.toList.map (·.key) := by
    by_cases hqq : q' = q
    ·subst hqq
     exact List.mem_map.2 ⟨e0, List.mem_of_getElem? f2, f3⟩
    ·obtain ⟨x, hx, hxk⟩ := h3 q' (by simpa [upd, hqq] using hq')
     exact List.mem_map.2 ⟨x, hx, hxk⟩
   rw [← hkeys] at hk'
   obtain ⟨x, hx, hxk⟩ := List.mem_map.1 hk'
   exact ⟨x, hx, hxk⟩
theorem CntAt.delete (h : CntAt w m c) (hk : P.underlying k = some (.int .i64)) (ht : P.underlying t = some (.map k e)) {q : Int} (hq : (Lit.int .i64 q).wf = true) (h0 : c q = 0) (ty : TypeId) :
  ∃ w', (Builtin.delete_ #[t, k] ty #[.map (some m), .int .i64 q]).run P w = .ok (.tuple #[]) w' ∧ CntAt w' m c ∧ w.grownBy w' (some m) := by
 obtain ⟨es, clock, hb, h1, h2, h3⟩ := h
 have K := int_keyed hk
 have hkey := keyOf_int_mk hk hq
 have hg : ∀ es' clock', w.grownBy (setBlock w m (.map es' clock')) (some m) := fun es' clock' => ⟨rfl, rfl, rfl, by simp [setBlock], fun i _ hi => heap_setBlock_other hb _ (fun e => hi (by rw [e]))⟩
 rcases K.find w hkey es.toList (CntAt.keys hk h1) with ⟨f1, f2⟩ | ⟨j, e0, f1, f2, f3⟩
 ·refine ⟨setBlock w m (.map es clock), ?_, ⟨_, _, heap_setBlock_same hb _, h1, h2, h3⟩, hg _ _⟩
  simp [Builtin.delete_, run_underlying ht, MapKept.run_getObj_map hb, K.check w _ hkey, f1, MapKept.run_setObj_map _ hb, Result.andThen, setBlock]
 ·have hjl : j < es.toList.length := (List.getElem?_eq_some_iff.1 f2).1
  have hjs : j < es.size := by simpa using hjl
  have hsub : (es.eraseIdxIfInBounds j).toList = es.toList.eraseIdx j := by
   unfold Array.eraseIdxIfInBounds
   rw [dif_pos hjs]
   simp
  refine ⟨setBlock w m (.map (es.eraseIdxIfInBounds j) clock), ?_, ⟨_, _, heap_setBlock_same hb _, fun x hx => ?_, ?_, fun q' hq' => ?_⟩, hg _ _⟩
  ·simp [Builtin.delete_, run_underlying ht, MapKept.run_getObj_map hb, K.check w _ hkey, f1, MapKept.run_setObj_map _ hb, Result.andThen, setBlock]
  ·rw [hsub] at hx
   exact h1 x ((List.eraseIdx_sublist _ _).subset hx)
  ·rw [hsub]
   exact h2.sublist ((List.eraseIdx_sublist _ _).map _)
  ·obtain ⟨x, hx, hxk⟩ := h3 q' hq'
   refine ⟨x, ?_, hxk⟩
   rw [hsub]
   obtain ⟨i, hi⟩ := List.mem_iff_getElem?.1 hx
   refine List.mem_eraseIdx_iff_getElem?.2 ⟨i, ?_, hi⟩
   rintro rfl
   rw [f2] at hi
   injection hi with hi
   rw [← hi, f3] at hxk
   injection hxk with _ hxk
   subst hxk
   exact hq' h0
end
section
variable {P : Program} {ops : Array Oper} {rest : List Oper} {o : Oper} {a : Act} {w : World} {Q : Exit → Act → World → Prop} {b : Nat} {c : Int → Int} {t k e : TypeId}
theorem wpList_count (hgd : o.guard = none) (m x v : Operand) (ho : o.op = .mapUpdate t m x v) (h : CntAt w b c) (hk : P.underlying k = some (.int .i64)) (ht : P.underlying t = some (.map k e)) (q n : Int) (hm : a.eval m = .map (some b)) (hx : a.eval x = .int .i64 q) (hv : a.eval v = .int .i64 n) (hq : (Lit.int .i64 q).wf = true)
  (hK : ∀ w', CntAt w' b (upd c q n) → w.grownBy w' (some b) → wpList P ops Q rest (a.put o.dst undef) w') : wpList P ops Q (o :: rest) a w := by
 refine wpList_plain hgd fun K' hK' => ?_
 obtain ⟨w', hrun, r1, r2⟩ := h.update hk ht hq (v := n)
 unfold Oper.wp
 simp [execOp, ho, hm, hx, hv, hrun, Result.andThen]
 exact hK' _ _ (hK w' r1 r2)
theorem wpList_uncount (hgd : o.guard = none) (m x : Operand) (ho : o.op = .call { callee := .builtin .delete, args := #[m, x], argTypes := #[t, k] }) (h : CntAt w b c) (hk : P.underlying k = some (.int .i64)) (ht : P.underlying t = some (.map k e)) (q : Int) (hm : a.eval m = .map (some b)) (hx : a.eval x = .int .i64 q) (hq : (Lit.int .i64 q).wf = true) (h0 : c q = 0)
  (hK : ∀ w', CntAt w' b c → w.grownBy w' (some b) → wpList P ops Q rest (a.put o.dst (.tuple #[])) w') : wpList P ops Q (o :: rest) a w := by
 refine wpList_plain hgd fun K' hK' => ?_
 obtain ⟨w', hrun, r1, r2⟩ := h.delete hk ht hq h0 o.type
 unfold Oper.wp
 simp [execOp, ho, resolve, invoke, builtin, hm, hx, hrun, Result.andThen]
 exact hK' _ _ (hK w' r1 r2)
theorem q_count {C : World → Prop} {Qa : Act → Prop} (m x : Operand) (hw : Region.wanted o (yielded ops a.tmps) = true) (ho : o.op = .lookup t m x false) (hC : ∀ w, C w → CntAt w b c) (hk : P.underlying k = some (.int .i64)) (ht : P.underlying t = some (.map k e)) (hz : ∀ w, (zeroValue e).run P w = .ok (.int .i64 0) w) (q : Int) (hm : a.eval m = .map (some b)) (hx : a.eval x = .int .i64 q) (hq : (Lit.int .i64 q).wf = true)
  (h : wpQuiet P ops C Qa rest (a.put o.dst (.int .i64 (c q)))) : wpQuiet P ops C Qa (o :: rest) a := by
 unfold wpQuiet
 rw [if_pos hw]
 refine ⟨_, fun w hc => ?_, h⟩
 have hrun := (hC w hc).lookup hk ht (hz w) hq
 unfold Oper.quietAt execOp
 simp only [ho, hm, hx, Sem.run_bind, hrun, Result.andThen_ok, Sem.run_pure]
 exact ⟨rfl, rfl⟩
end
end
section
open Go.RowKit
section
variable {P : Program} {ops : Array Oper} {md : Region.Mode} {C : World → Prop}
def wpHead (P : Program) (md : Region.Mode) (ops : Array Oper) (C : World → Prop) (n : Nat) (L : Array Bool → Act → Prop) : Nat → Array Bool → Act → Prop
 | 0, listed, a => L listed a
 | f + 1, listed, a =>
  Region.ready md ops listed ≠ [] ∧ ∀ i ∈ Region.ready md ops listed, i < n ∧ qOp P ops C i (wpHead P md ops C n L f (listed.setIfInBounds i true)) a
theorem wpAny_of_wpHead {n g : Nat} {L : Array Bool → Act → Prop} {Q' : Exit → Act → World → Prop} (hL : ∀ listed a w, C w → L listed a → wpAny P md ops Q' g listed a w) :
  ∀ (f : Nat) (listed : Array Bool) (a : Act) (w : World), C w → wpHead P md ops C n L f listed a → wpAny P md ops Q' (f + g) listed a w
 | 0, listed, a, w, hw, h => by rw [Nat.zero_add]; exact hL _ _ _ hw h
 | f + 1, listed, a, w, hw, h => by
  rw [show f + 1 + g = (f + g) + 1 by omega]
  exact ⟨fun h0 => absurd h0 h.1, fun i hi => wpOp_of_qOp hw (fun a' w' hw' h' => wpAny_of_wpHead hL f _ a' w' hw' h') (h.2 i hi).2⟩
theorem wpHead_first {n i : Nat} {oi : Oper} {v : Value} {L : Array Bool → Act → Prop} (hi : ops[i]? = some oi) (hsel : ∀ (j : Nat) (o : Oper) cs b, ops[j]? = some o → o.op ≠ .select cs b)
  (hs : Region.sinkB md ops n = true) (hc : Region.chainB md ops n = true) (hn : n < ops.size) (hin : i < n)
  (hdone : ∀ listed a, L listed a → ∀ j ∈ Region.ready md ops listed, n ≤ j) :
  ∀ (f : Nat) (listed : Array Bool) (a : Act), HeadInv md ops n listed →
   (∀ j oj, ops[j]? = some oj → j ≠ i → listed.getD j true = false → (∀ e ∈ oj.after, Region.binds md e = true → e.on ≠ i) → oi.apart ops oj = true) →
   i ∈ Region.ready md ops listed → YieldsIn P ops C oi v a →
   wpHead P md ops C n L f (listed.setIfInBounds i true) (a.put oi.dst v) → wpHead P md ops C n L (f + 1) listed a := by
 intro f
 induction f with
 | zero =>
  intro listed a inv _ hr hy H
  have hun := (mem_ready.1 hr).1
  refine ⟨fun h => (by rw [h] at hr; cases hr), fun j hj => ?_⟩
  have hjn : j < n := by
   rcases Nat.lt_or_ge j n with h | h
   ·exact h
   ·exact absurd hj (tail_waits hs hc hn inv _ i rfl hin hun j h)
  refine ⟨hjn, ?_⟩
  by_cases hji : j = i
  ·subst hji; exact hy.qOp hi H
  ·have := hdone _ _ H j (ready_mono hj hji)
   omega
 | succ f ih =>
  intro listed a inv hfree hr hy H
  have hun := (mem_ready.1 hr).1
  refine ⟨fun h => (by rw [h] at hr; cases hr), fun j hj => ?_⟩
  have hjn : j < n := by
   rcases Nat.lt_or_ge j n with h | h
   ·exact h
   ·exact absurd hj (tail_waits hs hc hn inv _ i rfl hin hun j h)
  refine ⟨hjn, ?_⟩
  by_cases hji : j = i
  ·subst hji; exact hy.qOp hi H
  ·have h1 := (H.2 j (ready_mono hj hji)).2
   obtain ⟨hjun, oj, hoj, hall⟩ := mem_ready.1 hj
   have hnot : ∀ e ∈ oj.after, Region.binds md e = true → e.on ≠ i := fun e he hb heq => by
    have h1 := hall e he hb
    rw [heq, getD_both hun] at h1
    cases h1
   have h2 := qOp_put hoj (hfree j oj hoj hji hjun hnot) (fun cs b => hsel i oi cs b hi) (fun cs b => hsel j oj cs b hoj) hy h1
   have hfree' : ∀ k ok, ops[k]? = some ok → k ≠ i → (listed.setIfInBounds j true).getD k true = false →
     (∀ e ∈ ok.after, Region.binds md e = true → e.on ≠ i) → oi.apart ops ok = true := fun k ok hk hki hun hno => by
    refine hfree k ok hk hki ?_ hno
    by_cases hjk : j = k
    ·subst hjk; exact hjun
    ·rw [getD_set_ne true hjk] at hun; exact hun
   refine qOp_mono (fun a' h3 => ih (listed.setIfInBounds j true) a' (inv.set hj hjn) hfree' (ready_mono hr (Ne.symm hji)) h3.1 ?_) h2
   rw [Array.setIfInBounds_comm _ _ hji]
   exact h3.2
theorem wpHead_lex {n g : Nat} {Lq : Act → Prop} (hsel : Region.noSelect ops = true) (hs : Region.sinkB md ops n = true) (hc : Region.chainB md ops n = true) (hn : n < ops.size) :
  ∀ (l : List Oper) (k : Nat) (listed : Array Bool) (a : Act), (∀ j, j < l.length → l[j]? = ops[k + j]?) → k + l.length = n → HeadInv md ops n listed →
  Region.lexHead md ops g l.length k listed = true → wpQuiet P ops C Lq l a →
  wpHead P md ops C n (fun listed' a' => Region.seqB md ops g n listed' = true ∧ Lq a') l.length listed a
 | [], k, listed, a, _, hk, _, hB, h => by
  have : k = n := by simpa using hk
  subst this
  exact ⟨by simpa [Region.lexHead] using hB, h⟩
 | o :: l, k, listed, a, hl, hk, inv, hB, h => by
  have h0 : ops[k]? = some o := by simpa using (hl 0 (by simp)).symm
  simp only [List.length_cons, Region.lexHead, Bool.and_eq_true] at hB
  obtain ⟨⟨hr, hf⟩, hB'⟩ := hB
  have hkn : k < n := by simp only [List.length_cons] at hk; omega
  have hr' : k ∈ Region.ready md ops listed := by simpa using hr
  have hst : qOp P ops C k (wpQuiet P ops C Lq l) a := by unfold qOp; simp only [h0]; exact h
  obtain ⟨v, hy, hK⟩ := yieldsIn_of_qOp h0 hst
  exact wpHead_first h0 (Region.noSelect_spec hsel) hs hc hn hkn (fun listed' a' hL => seqB_ready hL.1) l.length listed a inv (Region.free_spec h0 hf) hr' hy
   (wpHead_lex hsel hs hc hn l (k + 1) _ _ (fun j hj => by have := hl (j + 1) (by simp; omega); simpa [Nat.add_assoc, Nat.add_comm 1 j] using this) (by simp only [List.length_cons] at hk; omega) (inv.set hr' hkn) hB' hK)
theorem wp_region_class_tail {id : Nat} {Q : Exit → Act → World → Prop} {a : Act} {w : World} {l : List Oper} (C : World → Prop) (n : Nat) (hm : P.follows .mixedOrders = true) (hB : Region.lexTailB .any l.toArray n = true) (hC : C w.drew)
  (h : wpQuiet P l.toArray C (fun a' => ∀ w', C w' → wpList P l.toArray Q (l.drop n) a' w') (l.take n) a) : (Code.region id l.toArray true).wp P Q a w := by
 simp only [Region.lexTailB, Bool.and_eq_true, decide_eq_true_eq] at hB
 obtain ⟨⟨⟨⟨hsel, hn⟩, hs⟩, hc⟩, hlex⟩ := hB
 have hn' : n < l.length := by simpa using hn
 have htl : (l.take n).length = n := by simp; omega
 have hdl : (l.drop n).length = l.toArray.size - n := by simp
 have inv0 : HeadInv .any l.toArray n (Array.replicate l.toArray.size false) :=
  ⟨by simp, fun j oj _ hl => (by rw [getD_replicate_false] at hl; cases hl), fun t _ ht => getD_in (by simpa using ht) (getD_replicate_false _ _)⟩
 have H := wpHead_lex (md := .any) (g := l.toArray.size - n) hsel hs hc hn (l.take n) 0 _ a (fun j hj => by
  have hj' : j < n := by rw [htl] at hj; exact hj
  simp [hj']) (by simpa using htl) inv0 (by rw [htl]; exact hlex) h
 refine wp_region_any hm ?_
 have := wpAny_of_wpHead (Q' := Q) (g := l.toArray.size - n) (fun listed a' w' hw' hL => by
  have := wpAny_of_seq (md := .any) (Q' := Q) (l.drop n) n listed a' w' (fun j => by simp [List.getElem?_drop]) (by rw [hdl]; exact hL.1) (hL.2 _ hw')
  rwa [hdl] at this) _ _ _ w.drew hC H
 rw [htl, show n + (l.toArray.size - n) = l.toArray.size by omega] at this
 exact this
theorem wp_region_quiet_tail {id : Nat} {Q : Exit → Act → World → Prop} {a : Act} {w : World} {l : List Oper} (n : Nat) (hm : P.follows .mixedOrders = true) (hB : Region.lexTailB .any l.toArray n = true)
  (h : wpQuiet P l.toArray (fun w' => ∃ n, w' = w.drewN n) (fun a' => ∀ w', (∃ n, w' = w.drewN n) → wpList P l.toArray Q (l.drop n) a' w') (l.take n) a) : (Code.region id l.toArray true).wp P Q a w :=
 wp_region_class_tail (fun w' => ∃ n, w' = w.drewN n) n hm hB ⟨1, rfl⟩ h
end
end
section
open Go Go.RowKit
theorem wqT {P : Program} {id : Nat} {Q : Exit → Act → World → Prop} {a : Act} {w : World} {l : List Oper} (n : Nat)
  (h : wpQuiet P l.toArray (fun w' => ∃ n, w' = w.drewN n) (fun a' => ∀ w', (∃ n, w' = w.drewN n) → wpList P l.toArray Q (l.drop n) a' w') (l.take n) a) (hm : P.follows .mixedOrders = true := by kernel_rfl) (hB : Region.lexTailB .any l.toArray n = true := by kernel_rfl) : (Code.region id l.toArray true).wp P Q a w :=
 wp_region_quiet_tail n hm hB h
end
section
set_option maxRecDepth 100000
open Go.RowKit
def kindOf (k : Nat) : IntKind := if k < 2 ∨ (10 ≤ k ∧ k < 18) then .i64 else .u64
def cellsOf (c : Nat → Int) : Array Value := #[.int .i64 (c 0), .int .i64 (c 1), .int .u64 (c 2), .int .u64 (c 3), .int .u64 (c 4), .int .u64 (c 5), .int .u64 (c 6), .int .u64 (c 7), .int .u64 (c 8), .int .u64 (c 9), .int .i64 (c 10), .int .i64 (c 11), .int .i64 (c 12), .int .i64 (c 13), .int .i64 (c 14), .int .i64 (c 15), .int .i64 (c 16), .int .i64 (c 17), .int .u64 (c 18), .int .u64 (c 19)]
def Fits (c : Nat → Int) : Prop := ∀ k, k < 20 → (Lit.int (kindOf k) (c k)).wf = true
def most : Int := 1152921504606846976
def btw (v lo hi : Int) : Bool := decide (lo ≤ v ∧ v ≤ hi)
def rightB (c : Nat → Int) : Nat → Bool
 | 0 => btw (c 0) 1 4096
 | 1 => btw (c 1) 1 4096
 | 2 => decide (1 ≤ c 2)
 | 3 => decide (c 2 ≤ c 3)
 | 4 => btw (c 4) (c 3) most
 | 5 => btw (c 5) 1 (c 2)
 | 6 => btw (c 6) (c 3) (c 4)
 | 7 => btw (c 7) 1 most
 | 8 => decide (1 ≤ c 8)
 | 9 => decide (c 9 ≤ most)
 | 10 => btw (c 10) 1 1048576
 | 11 => decide (c 10 < c 11 ∧ c 11 ≤ 1048576)
 | 12 => btw (c 12) 1 4096
 | 13 => btw (c 13) 1 4096
 | 14 => btw (c 14) 1 4096
 | 15 => btw (c 15) 1 4096
 | 16 => decide (0 ≤ c 16 ∧ c 16 < c 14 ∧ c 16 < c 15)
 | 17 => btw (c 17) 0 4096
 | 18 => decide (c 18 ≤ c 19)
 | 19 => btw (c 19) 1 4294967296
 | _ => true
def firstFrom (c : Nat → Int) : Nat → Nat → Int
 | 0, _ => 0
 | n + 1, k => if rightB c k = true then firstFrom c n (k + 1) else (k : Int) + 1
def chk (c : Nat → Int) : Int := firstFrom c 20 0
def Before (c : Nat → Int) (k : Nat) : Prop := ∀ j, j < k → rightB c j = true
theorem firstFrom_skip (c : Nat → Int) : ∀ (k n s : Nat), (∀ j, s ≤ j → j < s + k → rightB c j = true) → firstFrom c (n + k) s = firstFrom c n (s + k)
 | 0, n, s, _ => rfl
 | k + 1, n, s, h => by
  rw [show n + (k + 1) = (n + k) + 1 by omega, firstFrom, if_pos (h s (by omega) (by omega)), firstFrom_skip c k n (s + 1) (fun j h1 h2 => h j (by omega) (by omega))]
  congr 1; omega
theorem chk_at {c : Nat → Int} {k : Nat} (hk : k < 20) (hb : Before c k) (hr : rightB c k = false) : chk c = (k : Int) + 1 := by
 unfold chk
 rw [show 20 = (19 - k + 1) + k by omega, firstFrom_skip c k _ 0 (fun j _ h => hb j (by omega)), firstFrom, Nat.zero_add, if_neg (by rw [hr]; simp)]
theorem chk_none {c : Nat → Int} (hb : Before c 20) : chk c = 0 := by
 unfold chk
 rw [show 20 = 0 + 20 by omega, firstFrom_skip c 20 0 0 (fun j _ h => hb j (by omega)), firstFrom]
theorem before_succ {c : Nat → Int} {k : Nat} (hb : Before c k) (hr : rightB c k = true) : Before c (k + 1) := fun j hj => by
 rcases Nat.lt_or_ge j k with h | h
 ·exact hb j h
 ·rw [show j = k by omega]; exact hr
theorem before_zero (c : Nat → Int) : Before c 0 := fun j h => by omega
theorem chk_cases (c : Nat → Int) : (chk c = 0 ∧ Before c 20) ∨ ∃ k, k < 20 ∧ Before c k ∧ rightB c k = false ∧ chk c = (k : Int) + 1 := by
 have : ∀ n, n ≤ 20 → Before c n ∨ ∃ k, k < n ∧ Before c k ∧ rightB c k = false := by
  intro n
  induction n with
  | zero => intro _; exact .inl (before_zero c)
  | succ n ih =>
   intro hn
   rcases ih (by omega) with h | ⟨k, hk, h1, h2⟩
   ·cases hr : rightB c n with
    | true => exact .inl (before_succ h hr)
    | false => exact .inr ⟨n, by omega, h, hr⟩
   ·exact .inr ⟨k, by omega, h1, h2⟩
 rcases this 20 (Nat.le_refl _) with h | ⟨k, hk, h1, h2⟩
 ·exact .inl ⟨chk_none h, h⟩
 ·exact .inr ⟨k, hk, h1, h2, chk_at hk h1 h2⟩
end
section
def Wheel {α : Type} (C : List α) (f : Nat) (F : List α) : Prop := F.length ≤ C.length ∧ f < C.length ∧ ∀ t v, F[t]? = some v → C[(f + t) % C.length]? = some v
theorem wmod {N s : Nat} (h : s < 2 * N) : (s < N ∧ s % N = s) ∨ (N ≤ s ∧ s % N = s - N) := by
 rcases Nat.lt_or_ge s N with h1 | h1
 ·exact .inl ⟨h1, Nat.mod_eq_of_lt h1⟩
 ·refine .inr ⟨h1, ?_⟩
  rw [Nat.mod_eq_sub_mod h1]
  exact Nat.mod_eq_of_lt (by omega)
theorem splice_get {α : Type} (L : List α) (off : Nat) (cs : List α) (h : off + cs.length ≤ L.length) (p : Nat) :
  (splice L off cs)[p]? = if p < off then L[p]? else if p < off + cs.length then cs[p - off]? else L[p]? := by
 unfold splice
 have hl : (L.take off).length = off := by simp; omega
 by_cases h1 : p < off
 ·rw [if_pos h1, List.getElem?_append_left (by omega), List.getElem?_take_of_lt h1]
 ·rw [if_neg h1, List.getElem?_append_right (by omega), hl]
  by_cases h2 : p < off + cs.length
  ·rw [if_pos h2, List.getElem?_append_left (by omega)]
  ·rw [if_neg h2, List.getElem?_append_right (by omega), List.getElem?_drop]
   congr 1
   omega
section
variable {α : Type} {C F : List α} {f : Nat}
theorem Wheel.read1 (h : Wheel C f F) {u : Nat} (hu : f + u ≤ C.length) (j : Nat) (v : α) (hv : (F.take u)[j]? = some v) : C[f + j]? = some v := by
 have hj : j < u := by
  rcases Nat.lt_or_ge j u with h1 | h1
  ·exact h1
  ·rw [List.getElem?_eq_none (by simp; omega)] at hv; cases hv
 rw [List.getElem?_take_of_lt hj] at hv
 have := h.2.2 j v hv
 rwa [Nat.mod_eq_of_lt (by omega)] at this
theorem Wheel.read2 (h : Wheel C f F) (j : Nat) (v : α) (hv : (F.drop (C.length - f))[j]? = some v) : C[j]? = some v := by
 rw [List.getElem?_drop] at hv
 have hj : C.length - f + j < F.length := by
  rcases Nat.lt_or_ge (C.length - f + j) F.length with h1 | h1
  ·exact h1
  ·rw [List.getElem?_eq_none h1] at hv; cases hv
 obtain ⟨h1, h2, h3⟩ := h
 have := h3 _ v hv
 rw [show f + (C.length - f + j) = C.length + j by omega, Nat.add_mod_left, Nat.mod_eq_of_lt (by omega)] at this
 exact this
theorem Wheel.push (h : Wheel C f F) {cs : List α} (hc : F.length + cs.length ≤ C.length) {s u : Nat} (hs : s = (f + F.length) % C.length) (hu : u = min cs.length (C.length - s)) :
  Wheel (splice (splice C s (cs.take u)) 0 (cs.drop u)) f (F ++ cs) := by
 obtain ⟨h1, h2, h3⟩ := h
 have hsN : s < C.length := by rw [hs]; exact Nat.mod_lt _ (by omega)
 have l1 : (cs.take u).length = u := by simp; omega
 have l2 : (cs.drop u).length = cs.length - u := by simp
 have e1 : (splice C s (cs.take u)).length = C.length := length_splice _ _ _ (by omega)
 have e2 : (splice (splice C s (cs.take u)) 0 (cs.drop u)).length = C.length := by rw [length_splice _ _ _ (by omega), e1]
 refine ⟨by rw [e2]; simpa using hc, by omega, fun t v hv => ?_⟩
 rw [e2, splice_get _ _ _ (by omega), splice_get _ _ _ (by omega), l1, l2]
 have hws := wmod (N := C.length) (s := f + F.length) (by omega)
 rw [← hs] at hws
 have ht : t < F.length + cs.length := by
  rcases Nat.lt_or_ge t (F.length + cs.length) with h4 | h4
  ·exact h4
  ·rw [List.getElem?_eq_none (by simpa using h4)] at hv; cases hv
 have hwt := wmod (N := C.length) (s := f + t) (by omega)
 generalize hp : (f + t) % C.length = p at *
 by_cases htF : t < F.length
 ·rw [List.getElem?_append_left htF] at hv
  have := h3 t v hv
  rw [hp] at this
  rw [if_neg (by omega), if_neg (by omega)]
  by_cases h5 : p < s
  ·rw [if_pos h5]; exact this
  ·rw [if_neg h5, if_neg (by omega)]; exact this
 ·rw [List.getElem?_append_right (by omega)] at hv
  rw [if_neg (by omega)]
  by_cases hr : t - F.length < u
  ·rw [if_neg (by omega), if_neg (by omega), if_pos (by omega), List.getElem?_take_of_lt (by omega), show p - s = t - F.length by omega]
   exact hv
  ·rw [if_pos (by omega), List.getElem?_drop, show u + (p - 0) = t - F.length by omega]
   exact hv
theorem Wheel.pop (h : Wheel C f F) {k : Nat} (hk : k ≤ F.length) {C' : List α} (hl : C'.length = C.length) (hC : ∀ p, p < f ∨ f + k ≤ p → C'[p]? = C[p]?) : Wheel C' ((f + k) % C.length) (F.drop k) := by
 obtain ⟨h1, h2, h3⟩ := h
 refine ⟨by rw [hl, List.length_drop]; omega, by rw [hl]; exact Nat.mod_lt _ (by omega), fun t v hv => ?_⟩
 rw [List.getElem?_drop] at hv
 have ht : k + t < F.length := by
  rcases Nat.lt_or_ge (k + t) F.length with h4 | h4
  ·exact h4
  ·rw [List.getElem?_eq_none h4] at hv; cases hv
 have := h3 _ v hv
 rw [hl, Nat.mod_add_mod, Nat.add_assoc]
 have hwt := wmod (N := C.length) (s := f + (k + t)) (by omega)
 generalize (f + (k + t)) % C.length = p at *
 rw [hC p (by omega)]
 exact this
theorem Wheel.get (h : Wheel C f F) {t : Nat} {v : α} (hv : F[t]? = some v) : C[(f + t) % C.length]? = some v := h.2.2 t v hv
end
end
section
set_option maxRecDepth 100000
open Go.RowKit
def RingIn (R E k : Nat) (w : World) (b g size n f c : Nat) (C : List Value) : Prop :=
 Blk w b R #[.int .i64 size, .slice (some ⟨g, 0, none⟩) n n, .int .i64 f, .int .i64 c] ∧ Blk w g E C.toArray ∧ C.length = n * k ∧ f < n ∧ c ≤ n ∧ n ≤ size ∧ size ≤ 1048576
def RingNew (R : Nat) (w : World) (b size : Nat) : Prop := Blk w b R #[.int .i64 size, .slice none 0 0, .int .i64 0, .int .i64 0] ∧ 1 ≤ size ∧ size ≤ 1048576
def RingAt (R E k : Nat) (w : World) (b : Nat) (g : Option Nat) (size c : Nat) (F : List Value) : Prop :=
 F.length = c * k ∧ (∀ v ∈ F, v.oneCell' = true) ∧
 ((g = none ∧ c = 0 ∧ RingNew R w b size) ∨ ∃ g' n f C, g = some g' ∧ RingIn R E k w b g' size n f c C ∧ Wheel C (f * k) F)
def Foot (b : Nat) (g : Option Nat) (i : Nat) : Prop := i = b ∨ some i = g
def Moved (w : World) (g g' : Option Nat) : Prop := ∀ i, g' = some i → g = some i ∨ w.heap.size ≤ i
section
variable {R E k b g size n f c : Nat} {C F : List Value} {w w' : World} {S : Nat → Prop} {go : Option Nat}
theorem RingIn.kept (h : RingIn R E k w b g size n f c C) (hk : Kept S w w') (hb : ¬ S b) (hg : ¬ S g) : RingIn R E k w' b g size n f c C :=
 ⟨h.1.kept hk hb, h.2.1.kept hk hg, h.2.2⟩
theorem RingNew.kept (h : RingNew R w b size) (hk : Kept S w w') (hb : ¬ S b) : RingNew R w' b size := ⟨h.1.kept hk hb, h.2⟩
theorem RingAt.kept (h : RingAt R E k w b go size c F) (hk : Kept S w w') (hS : ∀ i, Foot b go i → ¬ S i) : RingAt R E k w' b go size c F := by
 obtain ⟨h1, h2, h3⟩ := h
 refine ⟨h1, h2, ?_⟩
 rcases h3 with ⟨rfl, hc, hn⟩ | ⟨g', n, f, C, rfl, hi, hw⟩
 ·exact .inl ⟨rfl, hc, hn.kept hk (hS _ (.inl rfl))⟩
 ·exact .inr ⟨g', n, f, C, rfl, hi.kept hk (hS _ (.inl rfl)) (hS _ (.inr rfl)), hw⟩
theorem RingAt.drewN (h : RingAt R E k w b go size c F) (m : Nat) : RingAt R E k (w.drewN m) b go size c F := h
theorem RingAt.size_le (h : RingAt R E k w b go size c F) : c ≤ size ∧ 1 ≤ size ∧ size ≤ 1048576 := by
 obtain ⟨_, _, ⟨_, rfl, _, h1, h2⟩ | ⟨g', n, f, C, rfl, ⟨_, _, _, h1, h2, h3, h4⟩, _⟩⟩ := h
 ·exact ⟨by omega, h1, h2⟩
 ·exact ⟨by omega, by omega, h4⟩
theorem RingAt.lt (h : RingAt R E k w b go size c F) : ∀ i, Foot b go i → i < w.heap.size := by
 obtain ⟨_, _, ⟨rfl, _, h1, _⟩ | ⟨g', n, f, C, rfl, ⟨h1, h2, _⟩, _⟩⟩ := h
 ·rintro i (rfl | h)
  ·exact h1.lt
  ·cases h
 ·rintro i (rfl | h)
  ·exact h1.lt
  ·injection h with h
   subst h
   exact h2.lt
theorem RingIn.ne (h : RingIn R E k w b g size n f c C) (hRE : R ≠ E) : b ≠ g := Blk.ne_ h.1 h.2.1 hRE
theorem RingIn.at_ (h : RingIn R E k w b g size n f c C) (hw : Wheel C (f * k) F) (hF : F.length = c * k) (h1 : ∀ v ∈ F, v.oneCell' = true) : RingAt R E k w b (some g) size c F := ⟨hF, h1, .inr ⟨g, n, f, C, rfl, h, hw⟩⟩
theorem RingIn.cells (h : RingIn R E k w b g size n f c C) : w.cell? ⟨b, 0, none⟩ = some (.int .i64 size) ∧ w.cell? ⟨b, 1, none⟩ = some (.slice (some ⟨g, 0, none⟩) n n) ∧ w.cell? ⟨b, 2, none⟩ = some (.int .i64 f) ∧ w.cell? ⟨b, 3, none⟩ = some (.int .i64 c) ∧
  w.frozen? ⟨b, 1, none⟩ = false ∧ w.frozen? ⟨b, 2, none⟩ = false ∧ w.frozen? ⟨b, 3, none⟩ = false :=
 ⟨h.1.cell 0, h.1.cell 1, h.1.cell 2, h.1.cell 3, h.1.frozen 1, h.1.frozen 2, h.1.frozen 3⟩
theorem RingNew.cells (h : RingNew R w b size) : w.cell? ⟨b, 0, none⟩ = some (.int .i64 size) ∧ w.cell? ⟨b, 1, none⟩ = some (.slice none 0 0) ∧ w.cell? ⟨b, 2, none⟩ = some (.int .i64 0) ∧ w.cell? ⟨b, 3, none⟩ = some (.int .i64 0) ∧
  w.frozen? ⟨b, 1, none⟩ = false ∧ w.frozen? ⟨b, 2, none⟩ = false ∧ w.frozen? ⟨b, 3, none⟩ = false :=
 ⟨h.1.cell 0, h.1.cell 1, h.1.cell 2, h.1.cell 3, h.1.frozen 1, h.1.frozen 2, h.1.frozen 3⟩
theorem RingAt.cells (h : RingAt R E k w b go size c F) : w.cell? ⟨b, 0, none⟩ = some (.int .i64 size) ∧ w.cell? ⟨b, 3, none⟩ = some (.int .i64 c) := by
 obtain ⟨_, _, ⟨rfl, rfl, h1⟩ | ⟨g', n, f, C, rfl, h1, _⟩⟩ := h
 ·exact ⟨h1.cells.1, h1.cells.2.2.2.1⟩
 ·exact ⟨h1.cells.1, h1.cells.2.2.2.1⟩
theorem ringAt_new (w : World) (R E k size : Nat) (h1 : 1 ≤ size) (h2 : size ≤ 1048576) : RingAt R E k (w.alloc (.cells #[.int .i64 size, .slice none 0 0, .int .i64 0, .int .i64 0] R)) w.heap.size none size 0 [] :=
 ⟨by simp, by simp, .inl ⟨rfl, rfl, Blk.new _ _ _, h1, h2⟩⟩
theorem row_src {f u : Nat} (hB : Blk w g E C.toArray) (hw : Wheel C f F) (hu : f + u ≤ C.length) (j : Nat) (v : Value) (hv : (F.take u)[j]? = some v) : w.cell? ((⟨g, f, none⟩ : Addr).add j) = some v := by
 rw [add_plain, hB.cell]
 simpa using hw.read1 hu j v hv
theorem row_src2 {f : Nat} (hB : Blk w g E C.toArray) (hw : Wheel C f F) (j : Nat) (v : Value) (hv : (F.drop (C.length - f))[j]? = some v) : w.cell? ((⟨g, 0, none⟩ : Addr).add j) = some v := by
 rw [add_plain, hB.cell, Nat.zero_add]
 simpa using hw.read2 j v hv
theorem splice_two {D F : List Value} {u : Nat} (hF : F.length ≤ D.length) (hu : u ≤ F.length) : splice (splice D 0 (F.take u)) u (F.drop u) = F ++ D.drop F.length := by
 have l1 : (F.take u).length = u := by simp; omega
 have l2 : (F.drop u).length = F.length - u := by simp
 have e1 : (splice D 0 (F.take u)).length = D.length := length_splice _ _ _ (by omega)
 apply List.ext_getElem?
 intro p
 rw [splice_get _ _ _ (by omega), splice_get _ _ _ (by omega), l1, l2]
 by_cases h1 : p < u
 ·rw [if_pos h1, if_neg (by omega), if_pos (by omega), List.getElem?_append_left (by omega), List.getElem?_take_of_lt (by omega), Nat.sub_zero]
 ·rw [if_neg h1]
  by_cases h2 : p < F.length
  ·rw [if_pos (by omega), List.getElem?_append_left h2, List.getElem?_drop, show u + (p - u) = p by omega]
  ·rw [if_neg (by omega), if_neg (by omega), if_neg (by omega), List.getElem?_append_right (by omega), List.getElem?_drop, show F.length + (p - F.length) = p by omega]
end
theorem pop_wheel {C F C' : List Value} {f n k : Nat} (hw : Wheel C (f * k) F) (hk : k ≤ F.length) (hC : C.length = n * k) (hl : C'.length = C.length) (h : ∀ p, p < f * k ∨ f * k + k ≤ p → C'[p]? = C[p]?) : Wheel C' ((f + 1) % n * k) (F.drop k) := by
 have := hw.pop hk hl h
 rwa [hC, show f * k + k = (f + 1) * k by rw [Nat.add_mul, Nat.one_mul], Nat.mul_mod_mul_right] at this
theorem run_make_rowN {P : Program} (t e : TypeId) (i : TypeInfo) (z : Value) (ht : P.underlying t = some (.slice e)) (hi : P.info? e = some i) (hz : i.zero = some z)
  (kl kc : IntKind) (n c : Nat) (hnc : n ≤ c) (hbytes : i.bytes * c ≤ 281474976710656) (h63 : c ≤ 9223372036854775807) (w : World) :
  (Instr.makeSlice t (.int kl (n : Int)) (.int kc (c : Int))).run P w = .ok (.slice (some ⟨w.heap.size, 0, none⟩) n c) (w.alloc (.cells (madeCells z.cells (c * i.size)) e)) := by
 have hb : (i.bytes : Int) * (c : Int) ≤ 281474976710656 := by
  have h : ((i.bytes * c : Nat) : Int) ≤ 281474976710656 := by omega
  rwa [Int.natCast_mul] at h
 have hr := run_make (P := P) w t e i z ht hi hz kl kc n c (by omega) (by omega) hb (by omega)
 simp only [Int.toNat_natCast] at hr
 exact hr
end
section
set_option maxRecDepth 100000
open Go.RowKit
def ClockAt (w : World) (b : Nat) (n L : Int) : Prop := Blk w b 184 #[.int .i64 n, .int .i64 L]
theorem clock_cells {w : World} {b : Nat} {n L : Int} (h : ClockAt w b n L) :
  w.cell? ⟨b, 0, none⟩ = some (.int .i64 n) ∧ w.cell? ⟨b, 1, none⟩ = some (.int .i64 L) ∧ w.frozen? ⟨b, 0, none⟩ = false :=
 ⟨Blk.cell h 0, Blk.cell h 1, Blk.frozen h 0⟩
theorem current_any (b : Nat) (n : Int) (w : World) (h : w.cell? ⟨b, 0, none⟩ = some (.int .i64 n)) :
  CallW 140 #[.pointer (some ⟨b, 0, none⟩)] w (.int .i64 n) := by
 go_enter Tryz.func140, Tryz.ntmps140
 go_wp2
 go_ret
 exact ⟨rfl, rfl⟩
def epochOf (n L : Int) : Int := if n < 0 ∨ L < 1 then 0 else n / L
theorem epochOf_yes {n L : Int} (h0 : 0 ≤ n) (h1 : 1 ≤ L) : epochOf n L = n / L := if_neg (by omega)
theorem epochOf_any (n L : Int) (w : World) (hn : n ≤ 9223372036854775807) :
  CallW 141 #[.int .i64 n, .int .i64 L] w (.int .i64 (epochOf n L)) := by
 by_cases h0 : n < 0
 ·have hd : decide (n < 0) = true := by simpa using h0
  have H := Lib.hid (show epochOf n L = 0 from if_pos (.inl h0))
  go_enter Tryz.func141, Tryz.ntmps141
  go_wp2
  go_ret
  exact ⟨by rw [H.out]; rfl, rfl⟩
 ·have hd : decide (n < 0) = false := by simpa using h0
  by_cases h1 : L < 1
  ·have hd1 : decide (L < 1) = true := by simpa using h1
   have H := Lib.hid (show epochOf n L = 0 from if_pos (.inr h1))
   go_enter Tryz.func141, Tryz.ntmps141
   go_wp2
   go_ret
   exact ⟨by rw [H.out]; rfl, rfl⟩
  ·have hd1 : decide (L < 1) = false := by simpa using h1
   have hz : (L == 0) = false := by simp; omega
   have H := Lib.hid (epochOf_yes (n := n) (L := L) (by omega) (by omega))
   have q0 : 0 ≤ n / L := Int.ediv_nonneg (by omega) (by omega)
   have q1 : n / L ≤ n := Int.ediv_le_self _ (by omega)
   have h2 : 0 ≤ n := by omega
   have h3 : 1 ≤ L := by omega
   clear h0 h1
   go_enter Tryz.func141, Tryz.ntmps141
   go_wp2
   go_ret
   exact ⟨by rw [H.out]; rfl, rfl⟩
end
section
open Go.RowKit
set_option maxRecDepth 100000
theorem ri_new_some (s : Nat) (w : World) (h : 1 ≤ s) (h2 : s ≤ 1048576) :
  Calls Tryz.prog 81 #[.int .i64 s] w fun e w' => e = .returned (.pointer (some ⟨w.heap.size, 0, none⟩)) ∧ w.alloc (.cells #[.int .i64 s, .slice none 0 0, .int .i64 0, .int .i64 0] 148) = w' := by
 have h0 : ¬ (s : Int) < 1 := by omega
 have h3 : ¬ (1048576 : Int) < (s : Int) := by omega
 go_enter Tryz.func81, Tryz.ntmps81
 go_wp2
 go_ret
 exact ⟨rfl, rfl⟩
theorem ri_len_any (b : Nat) (c : Int) (w : World) (h : w.cell? ⟨b, 3, none⟩ = some (.int .i64 c)) :
  CallW 287 #[.pointer (some ⟨b, 0, none⟩)] w (.int .i64 c) := by
 go_enter Tryz.func287, Tryz.ntmps287
 go_wp2
 go_ret
 exact ⟨rfl, rfl⟩
theorem ri_slot_any (b n f i : Nat) (a : Option Addr) (cap : Nat) (w : World) (h1 : w.cell? ⟨b, 1, none⟩ = some (.slice a n cap)) (h2 : w.cell? ⟨b, 2, none⟩ = some (.int .i64 f)) (hn : 0 < n) (hf : f ≤ 1048576) (hi : i ≤ 1048576) :
  CallD 171 #[.pointer (some ⟨b, 0, none⟩), .int .i64 i] w (.int .i64 (((f + i) % n : Nat) : Int)) := by
 have hz : ((n : Int) == 0) = false := by simp; omega
 go_enter Tryz.func171, Tryz.ntmps171
 go_wp2
 go_quiet (fail)
 go_wp2
 go_ret
 exact ⟨ret_int (by simp), _, rfl⟩
end
section
open Go.RowKit
set_option maxRecDepth 100000
theorem ri_copyTo_some (b g h size n f c m cap : Nat) (C D F : List Value) (w : World) (hi : RingIn 148 3 1 w b g size n f c C) (hw : Wheel C (f * 1) F) (hF : F.length = c * 1) (h1 : ∀ v ∈ F, v.oneCell' = true)
  (hD : Blk w h 3 D.toArray) (hDl : D.length = m * 1) (hcm : c ≤ m) (hmc : m ≤ cap) (hcap : cap ≤ 1048576) (hhg : h ≠ g) :
  Calls Tryz.prog 93 #[.pointer (some ⟨b, 0, none⟩), .slice (some ⟨h, 0, none⟩) m cap] w fun e w' => e = .returned (.tuple #[]) ∧ Blk w' h 3 (F ++ D.drop F.length).toArray ∧ Kept (fun i => i = h) w w' ∧ w'.heap.size = w.heap.size := by
 obtain ⟨c0, c1, c2, c3, -, -, -⟩ := hi.cells
 obtain ⟨B1, B2, hC, hfn, hcn, hns, hs⟩ := hi
 have HB1 := Lib.hid B1
 have HB2 := Lib.hid B2
 have HD := Lib.hid hD
 have HDl := Lib.hid hDl
 have HF := Lib.hid hF
 have HC := Lib.hid hC
 have H1 := Lib.hid h1
 clear B1 B2 hD hDl hF hC h1
 have hw : Wheel C f F := by first | exact hw | (rw [Nat.mul_one] at hw; exact hw)
 have HW := Lib.hid hw
 have hT : (Tryz.prog.info? 3).map (·.size) = some 1 := by kernel_rfl
 obtain ⟨u, hu1, hu2, hu3⟩ : ∃ u, u ≤ c ∧ f + u ≤ n ∧ (u = c ∨ f + u = n) := by
  by_cases hfc : f + c ≤ n
  ·exact ⟨c, by omega, hfc, .inl rfl⟩
  ·exact ⟨n - f, by omega, by omega, .inr (by omega)⟩
 have HT := Lib.hid hT
 clear hw hT
 by_cases hfc : f + c ≤ n
 ·have hle : ((f : Int) + (c : Int)) ≤ (n : Int) := by omega
  obtain rfl : u = c := by omega
  go_enter Tryz.func93, Tryz.ntmps93
  go_wp2
  go_quiet (fail)
  go_wp2
  refine wqT 11 ?_
  simp only [List.take_succ_cons, List.take_zero, List.drop_succ_cons, List.drop_zero]
  repeat (go_big_quiet_step (fail))
  refine wpQuiet_nil ?_
  intro _ hw'
  obtain ⟨nr, hw''⟩ := hw'
  subst hw''
  have l1 : (F.take u).length = u * 1 := by have := HF.out; simp; omega
  refine wpList_copyK rfl (.tmp 21) (.tmp 31) _ _ rfl 3 Tryz.underlying24 1 (by omega) HT.out _ _ _ _ _ _ rfl rfl h 0 D 3 HD.out (F.take u) u (by show u = min _ _; omega) l1
   (fun _ => ⟨rfl, _, rfl, row_src HB2.out HW.out (by have := HC.out; omega)⟩) (by have := HDl.out; omega) (fun v hv => H1.out v (List.mem_of_mem_take hv)) ?_
  intro W1 HD1 K1 S1
  have hbh : ¬ b = h := Blk.ne_ HB1.out HD.out (by decide)
  have d1 := K1.cell (p := ⟨b, 1, none⟩) hbh (by simpa using c1)
  have d3 := K1.cell (p := ⟨b, 3, none⟩) hbh (by simpa using c3)
  have HL1 := Lib.hid l1
  have HS1 := Lib.hid S1
  have HK1 := Lib.hid K1
  have HB2' : Hid (Blk W1 g 3 C.toArray) := Lib.hid (Blk.kept (w := (w.drewN nq).drewN nr) HB2.out K1 (Ne.symm hhg))
  clear l1 S1 K1 c1 c3
  go_wp2
  refine wqT 14 ?_
  simp only [List.take_succ_cons, List.take_zero, List.drop_succ_cons, List.drop_zero]
  repeat (go_big_quiet_step (fail))
  refine wpQuiet_nil ?_
  intro _ hw'
  obtain ⟨ns, hw''⟩ := hw'
  subst hw''
  refine wpList_copyK rfl (.tmp 35) (.tmp 46) _ _ rfl 3 Tryz.underlying24 1 (by omega) HT.out _ _ _ _ _ _ rfl rfl h u _ 3 HD1.out (F.drop u) 0 (by show 0 = min _ _; omega) (by have := HF.out; simp; omega)
   (fun h0 => by have := HF.out; simp at h0; omega) (by rw [length_splice _ _ _ (by have := HF.out; have := HDl.out; simp; omega)]; have := HF.out; have := HDl.out; simp; omega) (fun v hv => H1.out v (List.mem_of_mem_drop hv)) ?_
  intro W2 HD2 K2 S2
  have HS2 := Lib.hid S2
  have HK2 := Lib.hid K2
  clear S2 K2
  have hend : Blk W2 h 3 (F ++ D.drop F.length).toArray ∧ Kept (fun i => i = h) w W2 ∧ W2.heap.size = w.heap.size := by
   refine ⟨?_, ?_, ?_⟩
   ·have := HD2.out
    rw [splice_two (by have := HF.out; have := HDl.out; omega) (by have := HF.out; omega)] at this
    exact this
   ·exact ((((Kept.refl _ w).drewN nq).drewN nr).trans HK1.out (fun _ _ h => h)).drewN ns |>.trans HK2.out (fun _ _ h => h)
   ·exact HS2.out.trans HS1.out
  have HE := Lib.hid hend
  clear hend
  go_wp2
  all_goals
   go_end0
   exact ⟨rfl, HE.out⟩
 ·have hle : ¬ ((f : Int) + (c : Int)) ≤ (n : Int) := by omega
  have hlt : (n : Int) < (f : Int) + (c : Int) := by omega
  obtain rfl : n = f + u := by omega
  go_enter Tryz.func93, Tryz.ntmps93
  go_wp2
  go_quiet (fail)
  go_wp2
  refine wqT 11 ?_
  simp only [List.take_succ_cons, List.take_zero, List.drop_succ_cons, List.drop_zero]
  repeat (go_big_quiet_step (fail))
  refine wpQuiet_nil ?_
  intro _ hw'
  obtain ⟨nr, hw''⟩ := hw'
  subst hw''
  have l1 : (F.take u).length = u * 1 := by have := HF.out; simp; omega
  refine wpList_copyK rfl (.tmp 21) (.tmp 31) _ _ rfl 3 Tryz.underlying24 1 (by omega) HT.out _ _ _ _ _ _ rfl rfl h 0 D 3 HD.out (F.take u) u (by show u = min _ _; omega) l1
   (fun _ => ⟨rfl, _, rfl, row_src HB2.out HW.out (by have := HC.out; omega)⟩) (by have := HDl.out; omega) (fun v hv => H1.out v (List.mem_of_mem_take hv)) ?_
  intro W1 HD1 K1 S1
  have hbh : ¬ b = h := Blk.ne_ HB1.out HD.out (by decide)
  have d1 := K1.cell (p := ⟨b, 1, none⟩) hbh (by simpa using c1)
  have d3 := K1.cell (p := ⟨b, 3, none⟩) hbh (by simpa using c3)
  have HL1 := Lib.hid l1
  have HS1 := Lib.hid S1
  have HK1 := Lib.hid K1
  have HB2' : Hid (Blk W1 g 3 C.toArray) := Lib.hid (Blk.kept (w := (w.drewN nq).drewN nr) HB2.out K1 (Ne.symm hhg))
  clear l1 S1 K1 c1 c3
  go_wp2
  refine wqT 14 ?_
  simp only [List.take_succ_cons, List.take_zero, List.drop_succ_cons, List.drop_zero]
  repeat (go_big_quiet_step (fail))
  refine wpQuiet_nil ?_
  intro _ hw'
  obtain ⟨ns, hw''⟩ := hw'
  subst hw''
  have e : C.length - f = u := by have := HC.out; omega
  have hx := row_src2 HB2'.out HW.out
  rw [e] at hx
  refine wpList_copyK rfl (.tmp 35) (.tmp 46) _ _ rfl 3 Tryz.underlying24 1 (by omega) HT.out _ _ _ _ _ _ rfl rfl h u _ 3 HD1.out (F.drop u) (c - u) (by show c - u = min _ _; omega) (by have := HF.out; simp; omega)
   (fun _ => ⟨rfl, _, rfl, hx⟩) (by rw [length_splice _ _ _ (by have := HF.out; have := HDl.out; simp; omega)]; have := HF.out; have := HDl.out; simp; omega) (fun v hv => H1.out v (List.mem_of_mem_drop hv)) ?_
  clear hx e
  intro W2 HD2 K2 S2
  have HS2 := Lib.hid S2
  have HK2 := Lib.hid K2
  clear S2 K2
  have hend : Blk W2 h 3 (F ++ D.drop F.length).toArray ∧ Kept (fun i => i = h) w W2 ∧ W2.heap.size = w.heap.size := by
   refine ⟨?_, ?_, ?_⟩
   ·have := HD2.out
    rw [splice_two (by have := HF.out; have := HDl.out; omega) (by have := HF.out; omega)] at this
    exact this
   ·exact ((((Kept.refl _ w).drewN nq).drewN nr).trans HK1.out (fun _ _ h => h)).drewN ns |>.trans HK2.out (fun _ _ h => h)
   ·exact HS2.out.trans HS1.out
  have HE := Lib.hid hend
  clear hend
  go_wp2
  all_goals
   go_end0
   exact ⟨rfl, HE.out⟩
end
section
open Go.RowKit
set_option maxRecDepth 100000
theorem ri_copyTo_none (b h size m cap : Nat) (D : List Value) (w : World) (hi : RingNew 148 w b size)
  (hD : Blk w h 3 D.toArray) (hDl : D.length = m * 1) (hmc : m ≤ cap) (hcap : cap ≤ 1048576) :
  Calls Tryz.prog 93 #[.pointer (some ⟨b, 0, none⟩), .slice (some ⟨h, 0, none⟩) m cap] w fun e w' => e = .returned (.tuple #[]) ∧ Blk w' h 3 D.toArray ∧ Kept (fun i => i = h) w w' ∧ w'.heap.size = w.heap.size := by
 obtain ⟨c0, c1, c2, c3, -, -, -⟩ := hi.cells
 obtain ⟨B1, hs1, hs⟩ := hi
 have HB1 := Lib.hid B1
 have HD := Lib.hid hD
 have HDl := Lib.hid hDl
 clear B1 hD hDl
 have hT : (Tryz.prog.info? 3).map (·.size) = some 1 := by kernel_rfl
 have HT := Lib.hid hT
 clear hT
 go_enter Tryz.func93, Tryz.ntmps93
 go_wp2
 go_quiet (fail)
 go_wp2
 refine wqT 11 ?_
 simp only [List.take_succ_cons, List.take_zero, List.drop_succ_cons, List.drop_zero]
 repeat (go_big_quiet_step (fail))
 refine wpQuiet_nil ?_
 intro _ hw'
 obtain ⟨nr, hw''⟩ := hw'
 subst hw''
 refine wpList_copyK rfl (.tmp 21) (.tmp 31) _ _ rfl 3 Tryz.underlying24 1 (by omega) HT.out _ _ _ _ _ _ rfl rfl h 0 D 3 HD.out [] 0 (by show 0 = min _ _; omega) rfl
  (fun h0 => by simp at h0) (by simp) (fun v hv => by simp at hv) ?_
 intro W1 HD1 K1 S1
 have hbh : ¬ b = h := Blk.ne_ HB1.out HD.out (by decide)
 have d1 := K1.cell (p := ⟨b, 1, none⟩) hbh (by simpa using c1)
 have d3 := K1.cell (p := ⟨b, 3, none⟩) hbh (by simpa using c3)
 have HS1 := Lib.hid S1
 have HK1 := Lib.hid K1
 clear S1 K1 c1 c3
 go_wp2
 refine wqT 14 ?_
 simp only [List.take_succ_cons, List.take_zero, List.drop_succ_cons, List.drop_zero]
 repeat (go_big_quiet_step (fail))
 refine wpQuiet_nil ?_
 intro _ hw'
 obtain ⟨ns, hw''⟩ := hw'
 subst hw''
 refine wpList_copyK rfl (.tmp 35) (.tmp 46) _ _ rfl 3 Tryz.underlying24 1 (by omega) HT.out _ _ _ _ _ _ rfl rfl h 0 _ 3 HD1.out [] 0 (by show 0 = min _ _; omega) rfl
  (fun h0 => by simp at h0) (by simp) (fun v hv => by simp at hv) ?_
 intro W2 HD2 K2 S2
 have hend : Blk W2 h 3 D.toArray ∧ Kept (fun i => i = h) w W2 ∧ W2.heap.size = w.heap.size := by
  refine ⟨?_, ?_, ?_⟩
  ·have := HD2.out
   show W2.heap[h]? = _
   simpa [splice] using this
  ·exact ((((Kept.refl _ w).drewN nq).drewN nr).trans HK1.out (fun _ _ h => h)).drewN ns |>.trans K2 (fun _ _ h => h)
  ·exact S2.trans HS1.out
 have HE := Lib.hid hend
 clear hend S2 K2
 go_wp2
 all_goals
  go_end0
  exact ⟨rfl, HE.out⟩
theorem ri_copyTo_at (b h size c m cap : Nat) (go : Option Nat) (D F : List Value) (w : World) (hi : RingAt 148 3 1 w b go size c F)
  (hD : Blk w h 3 D.toArray) (hDl : D.length = m * 1) (hcm : c ≤ m) (hmc : m ≤ cap) (hcap : cap ≤ 1048576) (hhg : go ≠ some h) :
  Calls Tryz.prog 93 #[.pointer (some ⟨b, 0, none⟩), .slice (some ⟨h, 0, none⟩) m cap] w fun e w' => e = .returned (.tuple #[]) ∧ Blk w' h 3 (F ++ D.drop F.length).toArray ∧ Kept (fun i => i = h) w w' ∧ w'.heap.size = w.heap.size := by
 obtain ⟨h1, h2, ⟨rfl, rfl, h3⟩ | ⟨g, n, f, C, rfl, h3, h4⟩⟩ := hi
 ·obtain rfl : F = [] := List.eq_nil_of_length_eq_zero (by simpa using h1)
  have := ri_copyTo_none b h size m cap D w h3 hD hDl hmc hcap
  simpa using this
 ·exact ri_copyTo_some b g h size n f c m cap C D F w h3 h4 h1 h2 hD hDl hcm hmc hcap (fun e => hhg (by rw [e]))
end
section
open Go.RowKit
set_option maxRecDepth 100000
theorem ri_all_nil (w : World) : CallW 45 #[.pointer none] w (.slice none 0 0) := by
 go_enter Tryz.func45, Tryz.ntmps45
 go_wp2
 go_ret
 exact ⟨rfl, rfl⟩
theorem ri_all_any (b size c : Nat) (go : Option Nat) (F : List Value) (w : World) (hi : RingAt 148 3 1 w b go size c F) :
  Calls Tryz.prog 45 #[.pointer (some ⟨b, 0, none⟩)] w fun e w' => e = .returned (.slice (some ⟨w.heap.size, 0, none⟩) c c) ∧ Blk w' w.heap.size 3 F.toArray ∧ Below w.heap.size w w' := by
 obtain ⟨c0, c3⟩ := hi.cells
 obtain ⟨hcs, hs1, hs⟩ := hi.size_le
 have hgo : ∀ i, go = some i → i < w.heap.size := fun i e => hi.lt i (.inr e.symm)
 have hFl := hi.1
 have HFl := Lib.hid hFl
 have HI := Lib.hid hi
 clear hi hFl
 have hT : (Tryz.prog.info? 3).map (fun i => (i.zero, i.size, i.bytes)) = some (some (.int .i64 0), 1, 8) := by kernel_rfl
 obtain ⟨i0, hi0, hz0, hz1, hz2⟩ := info_parts hT
 have hmk := fun W => run_make_rowN (P := Tryz.prog) 24 3 i0 _ Tryz.underlying24 hi0 hz0 .i64 .i64 c c (Nat.le_refl _) (by rw [hz2]; omega) (by omega) W
 rw [hz1] at hmk
 have hDl : (madeCells (Value.cells (.int .i64 0)) (c * 1)).toList.length = c * 1 := by rw [Array.length_toList, size_madeCells]
 have hDe : (madeCells (Value.cells (.int .i64 0)) (c * 1)) = ((madeCells (Value.cells (.int .i64 0)) (c * 1)).toList).toArray := by simp
 generalize madeCells (Value.cells (.int .i64 0)) (c * 1) = D0 at *
 generalize D0.toList = D at *
 subst hDe
 have HDl := Lib.hid hDl
 clear hT hi0 hz0 hz1 hz2 i0 hDl
 go_enter Tryz.func45, Tryz.ntmps45
 go_wp2_with fail
 refine (ri_copyTo_at b _ size c c c go D F _ (RingAt.kept (S := fun _ => False) HI.out ((Kept.refl _ w).alloc _) (fun _ _ h => h)) (Blk.new _ _ _) HDl.out (by omega) (by omega) (by omega) (fun e => by have := hgo _ e; simp at this)).mono ?_
 rintro e w1 ⟨rfl, hB1, hK1, hS1⟩
 have hB2 : Blk w1 w.heap.size 3 F.toArray := by
  have := hB1
  rw [List.drop_of_length_le (by have := HFl.out; have := HDl.out; omega), List.append_nil] at this
  exact this
 have hK2 : Kept (fun i => i = w.heap.size) w w1 := ((Kept.refl _ w).alloc _).trans hK1 (fun _ _ h => h)
 have HK2 := Lib.hid hK2
 have HB2 := Lib.hid hB2
 clear hB1 hK1 hS1 hK2 hB2
 go_wp2
 go_ret
 exact ⟨rfl, HB2.out, Kept.below (Below.refl _ _) HK2.out (fun i hi => by omega) (Nat.le_refl _)⟩
end
section
open Go.RowKit
set_option maxRecDepth 100000
theorem ri_peek_out (b : Nat) (i c : Int) (w : World) (h3 : w.cell? ⟨b, 3, none⟩ = some (.int .i64 c)) (ho : i < 0 ∨ c ≤ i) :
  CallW 270 #[.pointer (some ⟨b, 0, none⟩), .int .i64 i] w (.tuple #[.int .i64 0, .bool false]) := by
 by_cases h : i < 0
 ·clear ho
  go_enter Tryz.func270, Tryz.ntmps270
  go_wp2
  go_ret2
  exact ⟨rfl, rfl⟩
 ·have h' : 0 ≤ i := by omega
  have h2 : c ≤ i := by omega
  clear ho
  go_enter Tryz.func270, Tryz.ntmps270
  go_wp2_with fail
  refine (ri_len_any _ _ _ h3).mono ?_
  rintro e w' ⟨rfl, rfl⟩
  go_wp2
  go_ret2
  exact ⟨rfl, rfl⟩
theorem ri_peek_in (b g size n f c i : Nat) (C F : List Value) (v : Value) (w : World) (hr : RingIn 148 3 1 w b g size n f c C) (hw : Wheel C (f * 1) F) (hF : F.length = c * 1) (hv : F[i]? = some v) :
  CallD 270 #[.pointer (some ⟨b, 0, none⟩), .int .i64 i] w (.tuple #[v, .bool true]) := by
 obtain ⟨-, d1, d2, d3, -, -, -⟩ := hr.cells
 obtain ⟨B1, B2, hC, hfn, hcn, hns, hs⟩ := hr
 have hic : i < c := by
  rcases Nat.lt_or_ge i F.length with h | h
  ·omega
  ·rw [List.getElem?_eq_none h] at hv; cases hv
 have hi1 : ¬ (i : Int) < 0 := by omega
 have hi2 : ¬ (c : Int) ≤ (i : Int) := by omega
 obtain ⟨p, hp⟩ : ∃ p : Nat, (f + i) % n = p := ⟨_, rfl⟩
 have hpn : p < n := by rw [← hp]; exact Nat.mod_lt _ (by omega)
 have hcell : w.cell? ⟨g, p, none⟩ = some v := by
  rw [B2.cell, ← hp]
  have := hw.get hv
  rw [hC] at this
  simpa using this
 have hslot : ∀ W : World, W.cell? ⟨b, 1, none⟩ = some (.slice (some ⟨g, 0, none⟩) n n) → W.cell? ⟨b, 2, none⟩ = some (.int .i64 f) → CallD 171 #[.pointer (some ⟨b, 0, none⟩), .int .i64 i] W (.int .i64 p) := fun W x1 x2 => by
  have := ri_slot_any b n f i _ n W x1 x2 (by omega) (by omega) (by omega)
  rwa [hp] at this
 have HSL := Lib.hid hslot
 clear hslot hp B1 B2 hC hw hF hv
 go_enter Tryz.func270, Tryz.ntmps270
 go_wp2_with fail
 refine (ri_len_any _ _ _ d3).mono ?_
 rintro e w' ⟨rfl, rfl⟩
 go_wp2
 go_quiet ((go_at_call 171; exact Calls.quiet_of (HSL.out _ d1 d2)))
 go_wp2
 go_ret2
 exact ⟨rfl, _, rfl⟩
theorem ri_peek_at (b size c i : Nat) (go : Option Nat) (F : List Value) (v : Value) (w : World) (hi : RingAt 148 3 1 w b go size c F) (hv : F[i]? = some v) :
  CallD 270 #[.pointer (some ⟨b, 0, none⟩), .int .i64 i] w (.tuple #[v, .bool true]) := by
 obtain ⟨hF, _, ⟨rfl, rfl, _⟩ | ⟨g, n, f, C, rfl, h3, h4⟩⟩ := hi
 ·obtain rfl : F = [] := List.eq_nil_of_length_eq_zero (by simpa using hF)
  simp at hv
 ·exact ri_peek_in b g size n f c i C F v w h3 h4 hF hv
theorem ri_pop_empty (b : Nat) (w : World) (h3 : w.cell? ⟨b, 3, none⟩ = some (.int .i64 0)) :
  CallW 271 #[.pointer (some ⟨b, 0, none⟩)] w (.tuple #[.int .i64 0, .bool false]) := by
 go_enter Tryz.func271, Tryz.ntmps271
 go_wp2_with fail
 refine (ri_peek_out b 0 0 _ h3 (by omega)).mono ?_
 rintro e w' ⟨rfl, rfl⟩
 go_wp2
 go_ret2
 exact ⟨rfl, rfl⟩
theorem ri_pop_in (b g size n f c : Nat) (C F : List Value) (v : Value) (w : World) (hr : RingIn 148 3 1 w b g size n f (c + 1) C) (hw : Wheel C (f * 1) (v :: F)) (hF : F.length = c * 1) :
  Calls Tryz.prog 271 #[.pointer (some ⟨b, 0, none⟩)] w fun e w' => e = .returned (.tuple #[v, .bool true]) ∧
   (∃ f' C', RingIn 148 3 1 w' b g size n f' c C' ∧ Wheel C' (f' * 1) F) ∧ Kept (fun i => i = b ∨ i = g) w w' := by
 have hpk := fun W (hW : Hid (W = w)) => ri_peek_in b g size n f (c + 1) 0 C (v :: F) v W (hW.out ▸ hr) hw (by simp [hF]) (by simp)
 obtain ⟨-, d1, d2, d3, -, fz2, fz3⟩ := hr.cells
 obtain ⟨B1, B2, hC, hfn, hcn, hns, hs⟩ := hr
 have HPK := Lib.hid hpk
 have HB1 := Lib.hid B1
 have HB2 := Lib.hid B2
 have HC := Lib.hid hC
 have HW := Lib.hid hw
 have HF := Lib.hid hF
 obtain ⟨s, hsv⟩ : ∃ s : Nat, (f + 1) % n = s := ⟨_, rfl⟩
 have hsn : s < n := by rw [← hsv]; exact Nat.mod_lt _ (by omega)
 have hslot : ∀ W : World, W.cell? ⟨b, 1, none⟩ = some (.slice (some ⟨g, 0, none⟩) n n) → W.cell? ⟨b, 2, none⟩ = some (.int .i64 f) → CallD 171 #[.pointer (some ⟨b, 0, none⟩), .int .i64 1] W (.int .i64 s) := fun W x1 x2 => by
  have := ri_slot_any b n f 1 _ n W x1 x2 (by omega) (by omega) (by omega)
  rwa [hsv] at this
 have HSL := Lib.hid hslot
 have HSV := Lib.hid hsv
 clear hslot hsv hpk B1 B2 hC hw hF
 go_enter Tryz.func271, Tryz.ntmps271
 go_wp2_with fail
 refine (HPK.out _ (Lib.hid rfl)).mono ?_
 rintro e w' ⟨rfl, q, rfl⟩
 go_wp2
 refine wqT 14 ?_
 simp only [List.take_succ_cons, List.take_zero, List.drop_succ_cons, List.drop_zero]
 repeat (go_big_quiet_step (fail))
 refine wpQuiet_nil ?_
 intro _ hw'
 obtain ⟨nr, hw''⟩ := hw'
 subst hw''
 refine wpList_clearK rfl (.tmp 27) _ rfl 3 Tryz.underlying24 (.int .i64 0) (fun _ => by kernel_rfl) (by decide) g f 1 (n - f) rfl (by omega) C 3 HB2.out (by have := HC.out; simp [Value.cells]; omega) ?_
 intro W1 HD1 K1
 have hbg : ¬ b = g := Blk.ne_ HB1.out HB2.out (by decide)
 have hB1 : Hid (Blk W1 b 148 #[.int .i64 size, .slice (some ⟨g, 0, none⟩) n n, .int .i64 f, .int .i64 ((c + 1 : Nat) : Int)]) := Lib.hid (Blk.kept (w := (w.drewN q).drewN nr) HB1.out K1 hbg)
 have x1 := hB1.out.cell 1
 have x2 := hB1.out.cell 2
 have x3 : W1.cell? ⟨b, 3, none⟩ = some (.int .i64 ((c : Int) + 1)) := hB1.out.cell 3
 have y2 := hB1.out.frozen 2
 have y3 := hB1.out.frozen 3
 have HK1 := Lib.hid K1
 clear K1 d1 d2 d3 fz2 fz3
 go_wp2_with fail
 refine (HSL.out _ x1 x2).mono ?_
 rintro e w' ⟨rfl, q2, rfl⟩
 go_wp2
 go_ret2
 refine ⟨rfl, ⟨s, _, ⟨?_, Blk.far (Blk.far (HD1.out) (Ne.symm hbg) _) (Ne.symm hbg) _, ?_, hsn, by omega, hns, hs⟩, ?_⟩, ?_⟩
 ·have := (hB1.out.set_ 2 (.int .i64 s)).set_ 3 (.int .i64 c)
  exact this
 ·have := HC.out
  rw [length_splice _ _ _ (by simp [Builtin.zeroCells, Value.cells]; omega)]
  exact this
 ·have hZ : (Builtin.zeroCells (Value.cells (.int .i64 0)) 1).toList.length = 1 := by simp [Builtin.zeroCells, Value.cells]
  generalize (Builtin.zeroCells (Value.cells (.int .i64 0)) 1).toList = Z at *
  have hfit : f + Z.length ≤ C.length := by have := HC.out; omega
  have := pop_wheel (C' := splice C f Z) HW.out (by simp) HC.out (length_splice _ _ _ hfit) (fun p hp => by
   rw [splice_get _ _ _ hfit]
   by_cases h1 : p < f
   ·rw [if_pos h1]
   ·rw [if_neg h1, if_neg (by omega)])
  rw [HSV.out] at this
  exact this
 ·refine Kept.setCell (S := fun i => i = b ∨ i = g) (Kept.setCell (S := fun i => i = b ∨ i = g) ?_ (.inl (.inl rfl)) _) (.inl (.inl rfl)) _
  exact ((((Kept.refl _ w).drewN q).drewN nr).trans HK1.out (fun _ _ h => .inr h)).drewN q2
theorem ri_pop_at (b size c : Nat) (go : Option Nat) (F : List Value) (v : Value) (w : World) (hi : RingAt 148 3 1 w b go size (c + 1) (v :: F)) :
  Calls Tryz.prog 271 #[.pointer (some ⟨b, 0, none⟩)] w fun e w' => e = .returned (.tuple #[v, .bool true]) ∧ RingAt 148 3 1 w' b go size c F ∧ Kept (Foot b go) w w' := by
 obtain ⟨hF, hF1, ⟨rfl, h0, _⟩ | ⟨g, n, f, C, rfl, h3, h4⟩⟩ := hi
 ·omega
 ·have hl : F.length = c * 1 := by simp only [List.length_cons] at hF; omega
  exact (ri_pop_in b g size n f c C F v w h3 h4 hl).mono fun e w' ⟨he, ⟨f', C', k1, k2⟩, k3⟩ =>
   ⟨he, k1.at_ k2 hl (fun x hx => hF1 x (List.mem_cons_of_mem _ hx)), k3.more fun i _ hi => hi.elim .inl (fun e => .inr (by rw [e]))⟩
end
section
set_option maxRecDepth 100000
def paidN (L : List Bool) (s : Nat) : Nat → List Nat
 | 0 => []
 | k + 1 => if L.getD ((s + k) % L.length) false = true then paidN L s k ++ [(s + k) % L.length] else paidN L s k
def posN (n s k : Nat) : Nat := if k = 0 then s else (s + k) % n
def Stop (L : List Bool) (s : Nat) (v p : Int) (m : Nat) : Prop :=
 (v ≤ (m : Int) ∨ L.length ≤ m ∨ p ≤ ((paidN L s m).length : Int)) ∧ ∀ j, j < m → (j : Int) < v ∧ j < L.length ∧ ((paidN L s j).length : Int) < p
section
variable {L : List Bool} {s m m' k : Nat} {v p : Int}
theorem Stop.le (h : Stop L s v p m) : m ≤ L.length := by
 rcases Nat.eq_zero_or_pos m with h0 | h0
 ·omega
 ·have := h.2 (m - 1) (by omega); omega
theorem paidN_len (L : List Bool) (s k : Nat) : (paidN L s k).length ≤ k := by
 induction k with
 | zero => simp [paidN]
 | succ k ih =>
  rw [paidN]; split
  ·rw [List.length_append, List.length_singleton]; omega
  ·omega
theorem paidN_mem {i : Nat} : ∀ {k : Nat}, i ∈ paidN L s k → (∃ j, j < k ∧ i = (s + j) % L.length) ∧ L.getD i false = true
 | 0, h => by simp [paidN] at h
 | k + 1, h => by
  rw [paidN] at h
  split at h
  ·rename_i hg
   rw [List.mem_append] at h
   rcases h with h | h
   ·obtain ⟨⟨j, hj, e⟩, h2⟩ := paidN_mem h
    exact ⟨⟨j, by omega, e⟩, h2⟩
   ·rw [List.mem_singleton] at h
    subst h
    exact ⟨⟨k, by omega, rfl⟩, hg⟩
  ·obtain ⟨⟨j, hj, e⟩, h2⟩ := paidN_mem h
   exact ⟨⟨j, by omega, e⟩, h2⟩
theorem mod_ne {n s i j : Nat} (hij : i < j) (hj : j < i + n) : (s + i) % n ≠ (s + j) % n := by
 intro h
 have h1 := Nat.div_add_mod (s + i) n
 have h2 := Nat.div_add_mod (s + j) n
 rw [h] at h1
 have h3 : n * ((s + j) / n) = n * ((s + i) / n) + (j - i) := by omega
 rcases Nat.lt_trichotomy ((s + j) / n) ((s + i) / n) with hc | hc | hc
 ·have := Nat.mul_le_mul_left n (Nat.succ_le_of_lt hc)
  rw [Nat.succ_eq_add_one, Nat.mul_add, Nat.mul_one] at this
  omega
 ·rw [hc] at h3; omega
 ·have := Nat.mul_le_mul_left n (Nat.succ_le_of_lt hc)
  rw [Nat.succ_eq_add_one, Nat.mul_add, Nat.mul_one] at this
  omega
theorem paidN_nodup : ∀ {k : Nat}, k ≤ L.length → (paidN L s k).Nodup
 | 0, _ => by simp [paidN]
 | k + 1, hk => by
  have ih := paidN_nodup (k := k) (by omega)
  rw [paidN]
  split
  ·rw [List.nodup_append]
   refine ⟨ih, by simp, fun a ha b hb => ?_⟩
   rw [List.mem_singleton] at hb
   subst hb
   obtain ⟨⟨j, hj, rfl⟩, _⟩ := paidN_mem ha
   exact mod_ne hj (by omega)
  ·exact ih
end
theorem Stop.ge {L : List Bool} {s m v p : Nat} (h : Stop L s v p m) : L.length ≤ m ∨ min v p ≤ m := by
 have := paidN_len L s m
 rcases h.1 with h | h | h
 ·exact .inr (by omega)
 ·exact .inl h
 ·exact .inr (by omega)
end
section
set_option maxRecDepth 100000
open Go Go.RowKit
def Cur (w : World) (c s : Nat) : Prop := Blk w c 157 #[.int .i64 (s : Int)]
theorem new_any_09 (w : World) : Calls Tryz.prog 77 #[] w fun e w' => ∃ c, e = .returned (.pointer (some ⟨c, 0, none⟩)) ∧ w.heap.size ≤ c ∧ Hid (Cur w' c 0) ∧ Below w.heap.size w w' := by
 go_enter Tryz.func77, Tryz.ntmps77
 go_wp2
 go_ret
 exact ⟨w.heap.size, rfl, Nat.le_refl _, Lib.hid (Blk.new w _ _), (Below.refl _ _).alloc (Nat.le_refl _) _⟩
theorem at_any (c s : Nat) (w : World) (h : Cur w c s) : CallW 49 #[.pointer (some ⟨c, 0, none⟩)] w (.int .i64 s) := by
 have x := h.cell 0
 clear h
 go_enter Tryz.func49, Tryz.ntmps49
 go_wp2
 go_ret
 exact ⟨rfl, rfl⟩
end
section
set_option maxRecDepth 100000
open Go.RowKit Go.Lib
def churnQ (a m q : Int) : Int := if q = 0 then m else if m < a / q then a / q else m
def ceilQ (a d : Int) : Int := if a % d = 0 then a / d else a / d + 1
end
section
set_option maxRecDepth 100000
def cnt (lim s : Int) : List Int → Nat
 | [] => 0
 | y :: r => if lim < s + y then 0 else 1 + cnt lim (s + y) r
def bat (lim : Int) : List Int → Nat
 | [] => 0
 | x :: r => 1 + cnt lim x r
end
section
open Go.RowKit
def Stays (p : World → (Nat → Prop) → Prop) : Prop := (∀ w S, p w S → ∀ i, S i → i < w.heap.size) ∧ ∀ w w' S T, p w S → Kept T w w' → (∀ i, S i → ¬ T i) → p w' S
structure Fam (n : Nat) (P : Nat → World → (Nat → Prop) → Prop) (Φ : Nat → Nat → Prop) (w : World) : Prop where
 part : ∀ k, k < n → P k w (Φ k)
 lt : ∀ k, k < n → ∀ i, Φ k i → i < w.heap.size
 ap : ∀ j k, j < n → k < n → j ≠ k → ∀ i, Φ j i → ¬ Φ k i
def fput (Φ : Nat → Nat → Prop) (k : Nat) (S : Nat → Prop) : Nat → Nat → Prop := fun j => if j = k then S else Φ j
section
variable {n : Nat} {P P' : Nat → World → (Nat → Prop) → Prop} {Φ : Nat → Nat → Prop} {w w' : World} {S' T : Nat → Prop}
theorem fput_same (k : Nat) : fput Φ k S' k = S' := if_pos rfl
theorem fput_other {j k : Nat} (h : j ≠ k) : fput Φ k S' j = Φ j := if_neg h
theorem Fam.kept (h : Fam n P Φ w) (hP : ∀ j, j < n → Stays (P j)) (hk : Kept T w w') (hT : ∀ k, k < n → ∀ i, Φ k i → ¬ T i) : Fam n P Φ w' :=
 ⟨fun k hkn => (hP k hkn).2 w w' _ T (h.part k hkn) hk (hT k hkn), fun k hkn i hi => Nat.lt_of_lt_of_le (h.lt k hkn i hi) hk.size, h.ap⟩
theorem Fam.below (h : Fam n P Φ w) (hP : ∀ j, j < n → Stays (P j)) (hb : Below w.heap.size w w') : Fam n P Φ w' :=
 h.kept hP (Kept.of_below (S := fun _ => False) hb) (fun _ _ _ _ h => h)
theorem Fam.turn (h : Fam n P Φ w) (hP : ∀ j, j < n → Stays (P j)) {k : Nat} (hk : k < n) (hsame : ∀ j, j < n → j ≠ k → P' j = P j) (hP' : Stays (P' k)) (hn : P' k w' S') (hS : ∀ i, S' i → Φ k i ∨ w.heap.size ≤ i)
  (hkp : Kept (Φ k) w w') : Fam n P' (fput Φ k S') w' := by
 refine ⟨fun j hj => ?_, fun j hj i hi => ?_, fun j l hj hl hjl i hi hi2 => ?_⟩
 ·by_cases hjk : j = k
  ·subst hjk; rw [fput_same]; exact hn
  ·rw [fput_other hjk, hsame j hj hjk]
   exact (hP j hj).2 w w' _ _ (h.part j hj) hkp (h.ap j k hj hk hjk)
 ·by_cases hjk : j = k
  ·subst hjk; rw [fput_same] at hi; exact hP'.1 w' S' hn i hi
  ·rw [fput_other hjk] at hi
   exact Nat.lt_of_lt_of_le (h.lt j hj i hi) hkp.size
 ·by_cases hjk : j = k
  ·subst hjk
   rw [fput_same] at hi
   rw [fput_other (fun e => hjl e.symm)] at hi2
   rcases hS i hi with h1 | h1
   ·exact h.ap j l hj hl hjl i h1 hi2
   ·exact absurd (h.lt l hl i hi2) (by omega)
  ·rw [fput_other hjk] at hi
   by_cases hlk : l = k
   ·subst hlk
    rw [fput_same] at hi2
    rcases hS i hi2 with h1 | h1
    ·exact h.ap j l hj hl hjk i hi h1
    ·exact absurd (h.lt j hj i hi) (by omega)
   ·rw [fput_other hlk] at hi2
    exact h.ap j l hj hl hjl i hi hi2
theorem Fam.turn2 (h : Fam n P Φ w) (hP : ∀ j, j < n → Stays (P j)) {k m : Nat} (hk : k < n) (hm : m < n) (hkm : k ≠ m) (hsame : ∀ j, j < n → j ≠ k → j ≠ m → P' j = P j) (hPk : Stays (P' k)) (hPm : Stays (P' m)) {R' : Nat → Prop}
  (hnk : P' k w' S') (hnm : P' m w' R') (hS : ∀ i, S' i → Φ k i ∨ w.heap.size ≤ i) (hR : ∀ i, R' i → Φ m i) (hSR : ∀ i, S' i → ¬ R' i)
  (hkp : Kept T w w') (hT : ∀ i, T i → Φ k i ∨ Φ m i) : Fam n P' (fput (fput Φ k S') m R') w' := by
 have base : ∀ j, j < n → j ≠ k → j ≠ m → ∀ i, Φ j i → ¬ T i := fun j hj h1 h2 i hi ht => by
  rcases hT i ht with h3 | h3
  ·exact h.ap j k hj hk h1 i hi h3
  ·exact h.ap j m hj hm h2 i hi h3
 have at1 : fput (fput Φ k S') m R' k = S' := by rw [fput_other hkm, fput_same]
 have at2 : fput (fput Φ k S') m R' m = R' := fput_same m
 have at3 : ∀ j, j ≠ k → j ≠ m → fput (fput Φ k S') m R' j = Φ j := fun j h1 h2 => by rw [fput_other h2, fput_other h1]
 have old : ∀ j, j < n → j ≠ k → j ≠ m → ∀ i, Φ j i → ¬ S' i ∧ ¬ R' i := fun j hj h1 h2 i hi => ⟨fun hs => by
  rcases hS i hs with h3 | h3
  ·exact h.ap j k hj hk h1 i hi h3
  ·exact absurd (h.lt j hj i hi) (by omega), fun hr => h.ap j m hj hm h2 i hi (hR i hr)⟩
 refine ⟨fun j hj => ?_, fun j hj i hi => ?_, fun j l hj hl hjl i hi hi2 => ?_⟩
 ·by_cases h1 : j = k
  ·subst h1; rw [at1]; exact hnk
  ·by_cases h2 : j = m
   ·subst h2; rw [at2]; exact hnm
   ·rw [at3 j h1 h2, hsame j hj h1 h2]
    exact (hP j hj).2 w w' _ _ (h.part j hj) hkp (base j hj h1 h2)
 ·by_cases h1 : j = k
  ·subst h1; rw [at1] at hi; exact hPk.1 w' S' hnk i hi
  ·by_cases h2 : j = m
   ·subst h2; rw [at2] at hi; exact hPm.1 w' R' hnm i hi
   ·rw [at3 j h1 h2] at hi
    exact Nat.lt_of_lt_of_le (h.lt j hj i hi) hkp.size
 ·by_cases h1 : j = k
  ·subst h1
   rw [at1] at hi
   by_cases h2 : l = m
   ·subst h2; rw [at2] at hi2; exact hSR i hi hi2
   ·rw [at3 l (fun e => hjl e.symm) h2] at hi2
    exact (old l hl (fun e => hjl e.symm) h2 i hi2).1 hi
  ·by_cases h2 : j = m
   ·subst h2
    rw [at2] at hi
    by_cases h3 : l = k
    ·subst h3; rw [at1] at hi2; exact hSR i hi2 hi
    ·rw [at3 l h3 (fun e => hjl e.symm)] at hi2
     exact (old l hl h3 (fun e => hjl e.symm) i hi2).2 hi
   ·rw [at3 j h1 h2] at hi
    by_cases h3 : l = k
    ·subst h3; rw [at1] at hi2; exact (old j hj h1 h2 i hi).1 hi2
    ·by_cases h4 : l = m
     ·subst h4; rw [at2] at hi2; exact (old j hj h1 h2 i hi).2 hi2
     ·rw [at3 l h3 h4] at hi2
      exact h.ap j l hj hl hjl i hi hi2
theorem Fam.more (h : Fam n P Φ w) (hP : ∀ j, j < n → Stays (P j)) (hP' : Stays (P' n)) (hsame : ∀ j, j < n → P' j = P j) (hn : P' n w' S') (hS : ∀ i, S' i → w.heap.size ≤ i) (hb : Below w.heap.size w w') : Fam (n + 1) P' (fput Φ n S') w' := by
 have k := h.below hP hb
 refine ⟨fun j hj => ?_, fun j hj i hi => ?_, fun j l hj hl hjl i hi hi2 => ?_⟩
 ·by_cases hjn : j = n
  ·subst hjn; rw [fput_same]; exact hn
  ·rw [fput_other hjn, hsame j (by omega)]; exact k.part j (by omega)
 ·by_cases hjn : j = n
  ·subst hjn; rw [fput_same] at hi; exact hP'.1 w' S' hn i hi
  ·rw [fput_other hjn] at hi; exact k.lt j (by omega) i hi
 ·by_cases hjn : j = n
  ·subst hjn
   rw [fput_same] at hi
   rw [fput_other (fun e => hjl e.symm)] at hi2
   have := h.lt l (by omega) i hi2
   have := hS i hi
   omega
  ·rw [fput_other hjn] at hi
   by_cases hln : l = n
   ·subst hln
    rw [fput_same] at hi2
    have := h.lt j (by omega) i hi
    have := hS i hi2
    omega
   ·rw [fput_other hln] at hi2
    exact h.ap j l (by omega) (by omega) hjl i hi hi2
theorem Fam.put (h : Fam n P Φ w) (hsame : ∀ j, j < n → P' j = P j) (hn : P' n w S') (hl : ∀ i, S' i → i < w.heap.size) (hd : ∀ k, k < n → ∀ i, Φ k i → ¬ S' i) : Fam (n + 1) P' (fput Φ n S') w := by
 refine ⟨fun j hj => ?_, fun j hj i hi => ?_, fun j l hj hl' hjl i hi hi2 => ?_⟩
 ·by_cases hjn : j = n
  ·subst hjn; rw [fput_same]; exact hn
  ·rw [fput_other hjn, hsame j (by omega)]; exact h.part j (by omega)
 ·by_cases hjn : j = n
  ·subst hjn; rw [fput_same] at hi; exact hl i hi
  ·rw [fput_other hjn] at hi; exact h.lt j (by omega) i hi
 ·by_cases hjn : j = n
  ·subst hjn
   rw [fput_same] at hi
   rw [fput_other (fun e => hjl e.symm)] at hi2
   exact hd l (by omega) i hi2 hi
  ·rw [fput_other hjn] at hi
   by_cases hln : l = n
   ·subst hln
    rw [fput_same] at hi2
    exact hd j (by omega) i hi hi2
   ·rw [fput_other hln] at hi2
    exact h.ap j l (by omega) (by omega) hjl i hi hi2
theorem Fam.less (h : Fam (n + 1) P Φ w) (hsame : ∀ j, j < n → P' j = P j) : Fam n P' Φ w :=
 ⟨fun j hj => by rw [hsame j hj]; exact h.part j (by omega), fun j hj => h.lt j (by omega), fun j k hj hk => h.ap j k (by omega) (by omega)⟩
theorem Fam.remap {M : Nat} (h : Fam M P Φ w) (f : Nat → Nat) (hf : ∀ k, k < n → f k < M) (hinj : ∀ j k, j < n → k < n → f j = f k → j = k) (hP : ∀ k, k < n → P' k = P (f k)) : Fam n P' (fun k => Φ (f k)) w :=
 ⟨fun k hk => by rw [hP k hk]; exact h.part _ (hf k hk), fun k hk => h.lt _ (hf k hk), fun j k hj hk hjk => h.ap _ _ (hf j hj) (hf k hk) fun e => hjk (hinj j k hj hk e)⟩
theorem Fam.zero : Fam 0 P Φ w := ⟨fun k hk => by omega, fun k hk => by omega, fun j k hj => by omega⟩
theorem stays_blk {b t : Nat} {cs : Array Value} : Stays fun w S => Blk w b t cs ∧ ∀ i, S i ↔ i = b :=
 ⟨fun w S h i hi => by rw [(h.2 i).1 hi]; exact h.1.lt, fun w w' S T h hk hT => ⟨h.1.kept hk (hT b ((h.2 b).2 rfl)), h.2⟩⟩
end
end
section
set_option maxRecDepth 100000
open Go.RowKit
theorem new_some (L : Int) (w : World) (h : 1 ≤ L) :
  Calls Tryz.prog 74 #[.int .i64 L] w fun e w' => e = .returned (.pointer (some ⟨w.heap.size, 0, none⟩)) ∧ w.alloc (.cells #[.int .i64 0, .int .i64 L] 184) = w' := by
 go_enter Tryz.func74, Tryz.ntmps74
 go_wp2
 go_ret
 exact ⟨rfl, rfl⟩
theorem block_any (b : Nat) (n L : Int) (w : World) (h : ClockAt w b n L) :
  CallW 91 #[.pointer (some ⟨b, 0, none⟩)] w (.int .i64 n) := by
 obtain ⟨c0, c1, cf⟩ := clock_cells h
 clear h
 go_enter Tryz.func91, Tryz.ntmps91
 go_wp2_with (go_at_call 140; refine (current_any _ _ _ c0).mono ?_; rintro e w' ⟨rfl, rfl⟩)
 go_ret
 exact ⟨rfl, rfl⟩
theorem epoch_any (b : Nat) (n L : Int) (w : World) (hn : n ≤ 9223372036854775807) (h : ClockAt w b n L) :
  CallD 92 #[.pointer (some ⟨b, 0, none⟩)] w (.int .i64 (epochOf n L)) := by
 obtain ⟨c0, c1, cf⟩ := clock_cells h
 clear h
 go_enter Tryz.func92, Tryz.ntmps92
 go_wp2
 go_quiet (first | (go_at_call 140; exact quiet_left (current_any _ _ _ (by simpa using c0))) | (go_at_call 141; exact quiet_left (epochOf_any _ _ _ hn)))
 go_wp2
 go_ret
 exact ⟨rfl, _, rfl⟩
end
section
set_option maxRecDepth 100000
open Go.RowKit
theorem r2_new_some (s : Nat) (w : World) (h : 1 ≤ s) (h2 : s ≤ 1048576) :
  Calls Tryz.prog 82 #[.int .i64 s] w fun e w' => e = .returned (.pointer (some ⟨w.heap.size, 0, none⟩)) ∧ w.alloc (.cells #[.int .i64 s, .slice none 0 0, .int .i64 0, .int .i64 0] 151) = w' := by
 have h0 : ¬ (s : Int) < 1 := by omega
 have h3 : ¬ (1048576 : Int) < (s : Int) := by omega
 go_enter Tryz.func82, Tryz.ntmps82
 go_wp2
 go_ret
 exact ⟨rfl, rfl⟩
end
section
set_option maxRecDepth 100000
open Go.RowKit
theorem r2_copyTo_some (b g h size n f c m cap : Nat) (C D F : List Value) (w : World) (hi : RingIn 151 116 2 w b g size n f c C) (hw : Wheel C (f * 2) F) (hF : F.length = c * 2) (h1 : ∀ v ∈ F, v.oneCell' = true)
  (hD : Blk w h 116 D.toArray) (hDl : D.length = m * 2) (hcm : c ≤ m) (hmc : m ≤ cap) (hcap : cap ≤ 1048576) (hhg : h ≠ g) :
  Calls Tryz.prog 95 #[.pointer (some ⟨b, 0, none⟩), .slice (some ⟨h, 0, none⟩) m cap] w fun e w' => e = .returned (.tuple #[]) ∧ Blk w' h 116 (F ++ D.drop F.length).toArray ∧ Kept (fun i => i = h) w w' ∧ w'.heap.size = w.heap.size := by
 obtain ⟨c0, c1, c2, c3, -, -, -⟩ := hi.cells
 obtain ⟨B1, B2, hC, hfn, hcn, hns, hs⟩ := hi
 have HB1 := Lib.hid B1
 have HB2 := Lib.hid B2
 have HD := Lib.hid hD
 have HDl := Lib.hid hDl
 have HF := Lib.hid hF
 have HC := Lib.hid hC
 have H1 := Lib.hid h1
 clear B1 B2 hD hDl hF hC h1
 have hw : Wheel C (f * 2) F := by first | exact hw | (rw [Nat.mul_one] at hw; exact hw)
 have HW := Lib.hid hw
 have hT : (Tryz.prog.info? 116).map (·.size) = some 2 := by kernel_rfl
 obtain ⟨u, hu1, hu2, hu3⟩ : ∃ u, u ≤ c ∧ f + u ≤ n ∧ (u = c ∨ f + u = n) := by
  by_cases hfc : f + c ≤ n
  ·exact ⟨c, by omega, hfc, .inl rfl⟩
  ·exact ⟨n - f, by omega, by omega, .inr (by omega)⟩
 have HT := Lib.hid hT
 clear hw hT
 by_cases hfc : f + c ≤ n
 ·have hle : ((f : Int) + (c : Int)) ≤ (n : Int) := by omega
  obtain rfl : u = c := by omega
  go_enter Tryz.func95, Tryz.ntmps95
  go_wp2
  go_quiet (fail)
  go_wp2
  refine wqT 11 ?_
  simp only [List.take_succ_cons, List.take_zero, List.drop_succ_cons, List.drop_zero]
  repeat (go_big_quiet_step (fail))
  refine wpQuiet_nil ?_
  intro _ hw'
  obtain ⟨nr, hw''⟩ := hw'
  subst hw''
  have l1 : (F.take (u * 2)).length = u * 2 := by have := HF.out; simp; omega
  refine wpList_copyK rfl (.tmp 21) (.tmp 31) _ _ rfl 116 Tryz.underlying25 2 (by omega) HT.out _ _ _ _ _ _ rfl rfl h 0 D 116 HD.out (F.take (u * 2)) u (by show u = min _ _; omega) l1
   (fun _ => ⟨rfl, _, rfl, row_src HB2.out HW.out (by have := HC.out; omega)⟩) (by have := HDl.out; omega) (fun v hv => H1.out v (List.mem_of_mem_take hv)) ?_
  intro W1 HD1 K1 S1
  have hbh : ¬ b = h := Blk.ne_ HB1.out HD.out (by decide)
  have d1 := K1.cell (p := ⟨b, 1, none⟩) hbh (by simpa using c1)
  have d3 := K1.cell (p := ⟨b, 3, none⟩) hbh (by simpa using c3)
  have HL1 := Lib.hid l1
  have HS1 := Lib.hid S1
  have HK1 := Lib.hid K1
  have HB2' : Hid (Blk W1 g 116 C.toArray) := Lib.hid (Blk.kept (w := (w.drewN nq).drewN nr) HB2.out K1 (Ne.symm hhg))
  clear l1 S1 K1 c1 c3
  go_wp2
  refine wqT 14 ?_
  simp only [List.take_succ_cons, List.take_zero, List.drop_succ_cons, List.drop_zero]
  repeat (go_big_quiet_step (fail))
  refine wpQuiet_nil ?_
  intro _ hw'
  obtain ⟨ns, hw''⟩ := hw'
  subst hw''
  refine wpList_copyK rfl (.tmp 35) (.tmp 46) _ _ rfl 116 Tryz.underlying25 2 (by omega) HT.out _ _ _ _ _ _ rfl rfl h (u * 2) _ 116 HD1.out (F.drop (u * 2)) 0 (by show 0 = min _ _; omega) (by have := HF.out; simp; omega)
   (fun h0 => by have := HF.out; simp at h0; omega) (by rw [length_splice _ _ _ (by have := HF.out; have := HDl.out; simp; omega)]; have := HF.out; have := HDl.out; simp; omega) (fun v hv => H1.out v (List.mem_of_mem_drop hv)) ?_
  intro W2 HD2 K2 S2
  have HS2 := Lib.hid S2
  have HK2 := Lib.hid K2
  clear S2 K2
  have hend : Blk W2 h 116 (F ++ D.drop F.length).toArray ∧ Kept (fun i => i = h) w W2 ∧ W2.heap.size = w.heap.size := by
   refine ⟨?_, ?_, ?_⟩
   ·have := HD2.out
    rw [splice_two (by have := HF.out; have := HDl.out; omega) (by have := HF.out; omega)] at this
    exact this
   ·exact ((((Kept.refl _ w).drewN nq).drewN nr).trans HK1.out (fun _ _ h => h)).drewN ns |>.trans HK2.out (fun _ _ h => h)
   ·exact HS2.out.trans HS1.out
  have HE := Lib.hid hend
  clear hend
  go_wp2
  all_goals
   go_end0
   exact ⟨rfl, HE.out⟩
 ·have hle : ¬ ((f : Int) + (c : Int)) ≤ (n : Int) := by omega
  have hlt : (n : Int) < (f : Int) + (c : Int) := by omega
  obtain rfl : n = f + u := by omega
  go_enter Tryz.func95, Tryz.ntmps95
  go_wp2
  go_quiet (fail)
  go_wp2
  refine wqT 11 ?_
  simp only [List.take_succ_cons, List.take_zero, List.drop_succ_cons, List.drop_zero]
  repeat (go_big_quiet_step (fail))
  refine wpQuiet_nil ?_
  intro _ hw'
  obtain ⟨nr, hw''⟩ := hw'
  subst hw''
  have l1 : (F.take (u * 2)).length = u * 2 := by have := HF.out; simp; omega
  refine wpList_copyK rfl (.tmp 21) (.tmp 31) _ _ rfl 116 Tryz.underlying25 2 (by omega) HT.out _ _ _ _ _ _ rfl rfl h 0 D 116 HD.out (F.take (u * 2)) u (by show u = min _ _; omega) l1
   (fun _ => ⟨rfl, _, rfl, row_src HB2.out HW.out (by have := HC.out; omega)⟩) (by have := HDl.out; omega) (fun v hv => H1.out v (List.mem_of_mem_take hv)) ?_
  intro W1 HD1 K1 S1
  have hbh : ¬ b = h := Blk.ne_ HB1.out HD.out (by decide)
  have d1 := K1.cell (p := ⟨b, 1, none⟩) hbh (by simpa using c1)
  have d3 := K1.cell (p := ⟨b, 3, none⟩) hbh (by simpa using c3)
  have HL1 := Lib.hid l1
  have HS1 := Lib.hid S1
  have HK1 := Lib.hid K1
  have HB2' : Hid (Blk W1 g 116 C.toArray) := Lib.hid (Blk.kept (w := (w.drewN nq).drewN nr) HB2.out K1 (Ne.symm hhg))
  clear l1 S1 K1 c1 c3
  go_wp2
  refine wqT 14 ?_
  simp only [List.take_succ_cons, List.take_zero, List.drop_succ_cons, List.drop_zero]
  repeat (go_big_quiet_step (fail))
  refine wpQuiet_nil ?_
  intro _ hw'
  obtain ⟨ns, hw''⟩ := hw'
  subst hw''
  have e : C.length - (f * 2) = (u * 2) := by have := HC.out; omega
  have hx := row_src2 HB2'.out HW.out
  rw [e] at hx
  refine wpList_copyK rfl (.tmp 35) (.tmp 46) _ _ rfl 116 Tryz.underlying25 2 (by omega) HT.out _ _ _ _ _ _ rfl rfl h (u * 2) _ 116 HD1.out (F.drop (u * 2)) (c - u) (by show c - u = min _ _; omega) (by have := HF.out; simp; omega)
   (fun _ => ⟨rfl, _, rfl, hx⟩) (by rw [length_splice _ _ _ (by have := HF.out; have := HDl.out; simp; omega)]; have := HF.out; have := HDl.out; simp; omega) (fun v hv => H1.out v (List.mem_of_mem_drop hv)) ?_
  clear hx e
  intro W2 HD2 K2 S2
  have HS2 := Lib.hid S2
  have HK2 := Lib.hid K2
  clear S2 K2
  have hend : Blk W2 h 116 (F ++ D.drop F.length).toArray ∧ Kept (fun i => i = h) w W2 ∧ W2.heap.size = w.heap.size := by
   refine ⟨?_, ?_, ?_⟩
   ·have := HD2.out
    rw [splice_two (by have := HF.out; have := HDl.out; omega) (by have := HF.out; omega)] at this
    exact this
   ·exact ((((Kept.refl _ w).drewN nq).drewN nr).trans HK1.out (fun _ _ h => h)).drewN ns |>.trans HK2.out (fun _ _ h => h)
   ·exact HS2.out.trans HS1.out
  have HE := Lib.hid hend
  clear hend
  go_wp2
  all_goals
   go_end0
   exact ⟨rfl, HE.out⟩
end
section
set_option maxRecDepth 100000
open Go.RowKit
theorem r2_copyTo_none (b h size m cap : Nat) (D : List Value) (w : World) (hi : RingNew 151 w b size)
  (hD : Blk w h 116 D.toArray) (hDl : D.length = m * 2) (hmc : m ≤ cap) (hcap : cap ≤ 1048576) :
  Calls Tryz.prog 95 #[.pointer (some ⟨b, 0, none⟩), .slice (some ⟨h, 0, none⟩) m cap] w fun e w' => e = .returned (.tuple #[]) ∧ Blk w' h 116 D.toArray ∧ Kept (fun i => i = h) w w' ∧ w'.heap.size = w.heap.size := by
 obtain ⟨c0, c1, c2, c3, -, -, -⟩ := hi.cells
 obtain ⟨B1, hs1, hs⟩ := hi
 have HB1 := Lib.hid B1
 have HD := Lib.hid hD
 have HDl := Lib.hid hDl
 clear B1 hD hDl
 have hT : (Tryz.prog.info? 116).map (·.size) = some 2 := by kernel_rfl
 have HT := Lib.hid hT
 clear hT
 go_enter Tryz.func95, Tryz.ntmps95
 go_wp2
 go_quiet (fail)
 go_wp2
 refine wqT 11 ?_
 simp only [List.take_succ_cons, List.take_zero, List.drop_succ_cons, List.drop_zero]
 repeat (go_big_quiet_step (fail))
 refine wpQuiet_nil ?_
 intro _ hw'
 obtain ⟨nr, hw''⟩ := hw'
 subst hw''
 refine wpList_copyK rfl (.tmp 21) (.tmp 31) _ _ rfl 116 Tryz.underlying25 2 (by omega) HT.out _ _ _ _ _ _ rfl rfl h 0 D 116 HD.out [] 0 (by show 0 = min _ _; omega) rfl
  (fun h0 => by simp at h0) (by simp) (fun v hv => by simp at hv) ?_
 intro W1 HD1 K1 S1
 have hbh : ¬ b = h := Blk.ne_ HB1.out HD.out (by decide)
 have d1 := K1.cell (p := ⟨b, 1, none⟩) hbh (by simpa using c1)
 have d3 := K1.cell (p := ⟨b, 3, none⟩) hbh (by simpa using c3)
 have HS1 := Lib.hid S1
 have HK1 := Lib.hid K1
 clear S1 K1 c1 c3
 go_wp2
 refine wqT 14 ?_
 simp only [List.take_succ_cons, List.take_zero, List.drop_succ_cons, List.drop_zero]
 repeat (go_big_quiet_step (fail))
 refine wpQuiet_nil ?_
 intro _ hw'
 obtain ⟨ns, hw''⟩ := hw'
 subst hw''
 refine wpList_copyK rfl (.tmp 35) (.tmp 46) _ _ rfl 116 Tryz.underlying25 2 (by omega) HT.out _ _ _ _ _ _ rfl rfl h 0 _ 116 HD1.out [] 0 (by show 0 = min _ _; omega) rfl
  (fun h0 => by simp at h0) (by simp) (fun v hv => by simp at hv) ?_
 intro W2 HD2 K2 S2
 have hend : Blk W2 h 116 D.toArray ∧ Kept (fun i => i = h) w W2 ∧ W2.heap.size = w.heap.size := by
  refine ⟨?_, ?_, ?_⟩
  ·have := HD2.out
   show W2.heap[h]? = _
   simpa [splice] using this
  ·exact ((((Kept.refl _ w).drewN nq).drewN nr).trans HK1.out (fun _ _ h => h)).drewN ns |>.trans K2 (fun _ _ h => h)
  ·exact S2.trans HS1.out
 have HE := Lib.hid hend
 clear hend S2 K2
 go_wp2
 all_goals
  go_end0
  exact ⟨rfl, HE.out⟩
theorem r2_copyTo_at (b h size c m cap : Nat) (go : Option Nat) (D F : List Value) (w : World) (hi : RingAt 151 116 2 w b go size c F)
  (hD : Blk w h 116 D.toArray) (hDl : D.length = m * 2) (hcm : c ≤ m) (hmc : m ≤ cap) (hcap : cap ≤ 1048576) (hhg : go ≠ some h) :
  Calls Tryz.prog 95 #[.pointer (some ⟨b, 0, none⟩), .slice (some ⟨h, 0, none⟩) m cap] w fun e w' => e = .returned (.tuple #[]) ∧ Blk w' h 116 (F ++ D.drop F.length).toArray ∧ Kept (fun i => i = h) w w' ∧ w'.heap.size = w.heap.size := by
 obtain ⟨h1, h2, ⟨rfl, rfl, h3⟩ | ⟨g, n, f, C, rfl, h3, h4⟩⟩ := hi
 ·obtain rfl : F = [] := List.eq_nil_of_length_eq_zero (by simpa using h1)
  have := r2_copyTo_none b h size m cap D w h3 hD hDl hmc hcap
  simpa using this
 ·exact r2_copyTo_some b g h size n f c m cap C D F w h3 h4 h1 h2 hD hDl hcm hmc hcap (fun e => hhg (by rw [e]))
end
section
set_option maxRecDepth 100000
open Go.RowKit
theorem rq_new_some (s : Nat) (w : World) (h : 1 ≤ s) (h2 : s ≤ 1048576) :
  Calls Tryz.prog 83 #[.int .i64 s] w fun e w' => e = .returned (.pointer (some ⟨w.heap.size, 0, none⟩)) ∧ w.alloc (.cells #[.int .i64 s, .slice none 0 0, .int .i64 0, .int .i64 0] 154) = w' := by
 have h0 : ¬ (s : Int) < 1 := by omega
 have h3 : ¬ (1048576 : Int) < (s : Int) := by omega
 go_enter Tryz.func83, Tryz.ntmps83
 go_wp2
 go_ret
 exact ⟨rfl, rfl⟩
end
end Go.Proofs.YtobgbcdgffgdhaaGreat
