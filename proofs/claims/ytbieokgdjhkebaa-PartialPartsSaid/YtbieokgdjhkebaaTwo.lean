/- A law's box of a configuration; two equal slices of payments; loads under a guard. -/
import Derived.Test.YtbieokgdjhkebaaLive
import Derived.Test.YtbieokgdjhkebaaWhole
namespace Go.Proofs.Ytbieokgdjhkebaa
open Go Go.RowKit Go.Deep
set_option linter.unusedVariables false
set_option linter.unusedSimpArgs false
set_option maxRecDepth 100000

def OneC (w W : World) (c : Nat → Int) : Prop := Blk W w.heap.size 35 (cellsOf c) ∧ Below w.heap.size w W
theorem OneC.new (w : World) (c : Nat → Int) : OneC w (w.alloc (.cells (cellsOf c) 35)) c := ⟨Blk.new _ _ _, (Below.refl _ _).alloc (Nat.le_refl _) _⟩
theorem OneC.next {w W W' : World} {c : Nat → Int} (h : OneC w W c) (hb : Below W.heap.size W W') : OneC w W' c := ⟨h.1.below hb h.1.lt, h.2.trans (hb.mono h.2.size)⟩
/-- The next operation is a load of this type (looked at before anything heavy). -/
theorem isload {P : Program} {ops : Array Oper} {Q : Exit → Act → World → Prop} {a : Act} {w : World} {rest : List Oper} {o : Oper} (ty : TypeId) (x : Operand) (ho : o.op = .load ty x) (h : wpList P ops Q (o :: rest) a w) : wpList P ops Q (o :: rest) a w := h
/-- A whole row is read, under a guard or not: the type is looked at first. -/
theorem wpList_load_rowH {P : Program} {ops : Array Oper} {Q : Exit → Act → World → Prop} {a : Act} {w : World} {rest : List Oper} {o : Oper} (ty : TypeId) (x : Operand) (ho : o.op = .load ty x)
    (g : Nat) (hx : a.eval x = .pointer (some ⟨g, 0, none⟩)) (hw : Region.wanted o (yielded ops a.tmps) = true) (t : TypeId) (cs : Array Value) (fr : Nat × Nat) (d : TypeDesc) (hg : w.heap[g]? = some (.cells cs t fr))
    (hu : P.underlying ty = some d) (hd : (match d with | .struct _ | .array _ _ => true | _ => false) = true) (hi : (P.info? ty).map (·.size) = some cs.size)
    (h : wpList P ops Q rest (a.put o.dst (.agg cs)) w) : wpList P ops Q (o :: rest) a w :=
  wpList_load_rowG hw ty x ho g hx t cs fr d hg hu hd hi h
theorem wpList_valG_val {P : Program} {ops : Array Oper} {rest : List Oper} {o : Oper} {a : Act} {w : World} {Q : Exit → Act → World → Prop} (v : Value) (hw : Region.wanted o (yielded ops a.tmps) = true) (hv : (execOp a.eval o).run P w = .ok (.value v) w) (h : wpList P ops Q rest (a.put o.dst v) w) : wpList P ops Q (o :: rest) a w :=
  wpList_valG _ hw hv h
set_option maxHeartbeats 800000 in
theorem equal_pays (S T : Nat → Prop) (a b : Option Addr) (cp cq : Nat) (l : List Py) (w : World) (h : LstR Py.row 3 w S a l) (h2 : LstR Py.row 3 w T b l) (hl : l.length ≤ 4096) :
    Calls Try.prog 20 #[.slice a l.length cp, .slice b l.length cq] w fun e w' => e = .returned (.bool true) ∧ ∃ m, w' = w.drewN m := by
  have HL := Lib.hid h
  have HM := Lib.hid h2
  obtain ⟨n, hn⟩ : ∃ n, l.length = n := ⟨_, rfl⟩
  rw [hn] at hl ⊢
  have HN := Lib.hid hn
  clear h h2 hn
  go_enter Try.func20, Try.ntmps20
  go_wp2
  go_loopw [5, 13] (fun s5 s13 wr => ∃ (k m : Nat), k ≤ n ∧ s13 = .int .i64 k ∧ wr = w.drewN m) (fun _ s13 _ => n - (intOf s13).toNat)
  case atStart => exact ⟨0, 0, by omega, rfl, rfl⟩
  case round =>
    obtain ⟨k, m, hk, rfl, rfl⟩ := hrel
    by_cases hlt : k < n
    · obtain ⟨v, hv⟩ : ∃ v, l[k]? = some v := ⟨_, List.getElem?_eq_getElem (by have := HN.out; omega)⟩
      obtain ⟨b1, o1, rfl, -, -, r1⟩ := HL.out.at hv
      obtain ⟨b2, o2, rfl, -, -, r2⟩ := HM.out.at hv
      have R1 := Lib.hid r1
      have R2 := Lib.hid r2
      have hk1 : ¬ (k : Int) < 0 := by omega
      have hk2 : ¬ (n : Int) ≤ (k : Int) := by omega
      have hk3 : (k : Int) < (n : Int) := by omega
      clear hv r1 r2
      go_wp2
      refine wp_region_class (fun w' => ∃ q, w' = w.drewN q) (by kernel_rfl) (by kernel_rfl) ⟨m + 1, rfl⟩ ?_
      iterate 3 (go_big_quiet_step ((intros; rfl)))
      refine q_load_Py 51 _ b1 (o1 + k * 3) v _ rfl rfl rfl (fun w h => by obtain ⟨q, rfl⟩ := h; exact R1.out) Try.underlying51 rfl infoPy ?_
      simp only [Act.put, List.setIfInBounds_toArray, List.set_cons_zero, List.set_cons_succ]
      iterate 3 (go_big_quiet_step ((intros; rfl)))
      refine q_load_Py 51 _ b2 (o2 + k * 3) v _ rfl rfl rfl (fun w h => by obtain ⟨q, rfl⟩ := h; exact R2.out) Try.underlying51 rfl infoPy ?_
      simp only [Act.put, List.setIfInBounds_toArray, List.set_cons_zero, List.set_cons_succ]
      refine q_nePy v v false rfl rfl rfl (by simp) ?_
      simp only [Act.put, List.setIfInBounds_toArray, List.set_cons_zero, List.set_cons_succ]
      refine wpQuiet_nil ?_
      intro _ hw'
      obtain ⟨q, hw''⟩ := hw'
      subst hw''
      go_wp2
      go_roundw
      case rel => exact ⟨k + 1, q, by omega, by go_num, rfl⟩
      case measure => simp [intOf]; omega
    · obtain rfl : k = n := by omega
      clear hlt
      have hlt : ¬ k < k := by omega
      go_wp2
      go_ret
      exact ⟨rfl, m, rfl⟩
/-- The rows of a list in a row of one's own. -/
theorem owns_rows {w : World} {base : Nat} {u : Value} {n : Nat} {l : List Val} (h : w.ownsRow base 33 7 u n (flat l)) (hl : l.length = n) (h0 : 0 < n) : ∃ g cp, u = .slice (some ⟨g, 0, none⟩) n cp ∧ base ≤ g ∧ g < w.heap.size ∧ ∀ i v, l[i]? = some v → w.rangeAt g (i * 7) v.row := by
  subst hl
  rcases h.2 with ⟨_, h1⟩ | ⟨g, cp, cur, rfl, h1, h2, _⟩
  · omega
  · have hL := owns_lst (S := fun _ => False) (owns_base h (Nat.zero_le _)) (fun _ _ h => h)
    refine ⟨g, cp, rfl, h1, (Array.getElem?_eq_some_iff.1 h2).1, fun i v hi => ?_⟩
    obtain ⟨b, off, e, r⟩ := hL.at hi
    injection e with e
    injection e with e1 e2 _
    subst e1 e2
    rwa [Nat.zero_add] at r
/-- Block g is a row whose elements have balances. -/
def Bals (w : World) (g n : Nat) : Prop := ∃ cur, Blk w g 33 cur ∧ ∀ i, i < n → ∃ x, cur[i * 7]? = some (.int .u64 x)
theorem Bals.set {w : World} {g n : Nat} (h : Bals w g n) (i : Nat) (y : Int) : Bals (w.setCell ⟨g, i * 7, none⟩ (.int .u64 y)) g n := by
  obtain ⟨cur, hb, hc⟩ := h
  refine ⟨_, hb.set_ (i * 7) _, fun j hj => ?_⟩
  obtain ⟨x, hx⟩ := hc j hj
  by_cases e : j = i
  · subst e
    refine ⟨y, ?_⟩
    rw [Array.getElem?_setIfInBounds_self]
    have := (Array.getElem?_eq_some_iff.1 hx).1
    simp [this]
  · refine ⟨x, ?_⟩
    rw [Array.getElem?_setIfInBounds_ne (by omega)]
    exact hx
theorem Bals.at {w : World} {g n : Nat} (h : Bals w g n) {i : Nat} (hi : i < n) : ∃ x, w.cell? ⟨g, i * 7, none⟩ = some (.int .u64 x) ∧ w.frozen? ⟨g, i * 7, none⟩ = false := by
  obtain ⟨cur, hb, hc⟩ := h
  obtain ⟨x, hx⟩ := hc i hi
  exact ⟨x, (hb.cell _).trans hx, hb.frozen _⟩
theorem Bals.below {w w' : World} {g n : Nat} (h : Bals w g n) (hb : Below w.heap.size w w') : Bals w' g n := by
  obtain ⟨cur, h1, h2⟩ := h
  exact ⟨cur, h1.below hb h1.lt, h2⟩
theorem Bals.of_owns {w : World} {base n g cp : Nat} {l : List Val} (h : w.ownsRow base 33 7 (.slice (some ⟨g, 0, none⟩) n cp) n (flat l)) (hl : l.length = n) : Bals w g n := by
  rcases h.2 with ⟨e, _⟩ | ⟨g', cp', cur, e, h1, h2, h3, h4, h5, h6⟩
  · cases e
  · injection e with e _ _
    injection e with e
    injection e with e
    subst e
    refine ⟨cur, h2, fun i hi => ?_⟩
    obtain ⟨v, hv⟩ : ∃ v, l[i]? = some v := ⟨_, List.getElem?_eq_getElem (by omega)⟩
    refine ⟨v.bal, ?_⟩
    have e1 := flat_at hv (j := 0) (by omega)
    rw [Nat.add_zero] at e1
    rw [← h6, List.getElem?_take] at e1
    have hlt : i * 7 < n * 7 := by omega
    rw [if_pos hlt, Array.getElem?_toList] at e1
    exact e1
end Go.Proofs.Ytbieokgdjhkebaa
