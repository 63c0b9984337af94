/- Pairs of integers: by value, in memory; '==' on two; the laws' arguments (a pair, pairs). -/
import Derived.Test.YtnaheindlkehhaaBase
import Derived.Laws.IdiomArrays
namespace Go.Proofs.Ytnaheindlkehhaa
open Go Go.ChangeShapes Go.WideShapes Go.RowKit Go.Deep
set_option linter.unusedVariables false
set_option linter.unusedSimpArgs false

def pairRow (p : Int × Int) : List Value := [.int .i64 p.1, .int .i64 p.2]
def cellsP (p : Int × Int) : Array Value := (pairRow p).toArray
def FitsP (p : Int × Int) : Prop := (Lit.int .i64 p.1).wf = true ∧ (Lit.int .i64 p.2).wf = true
theorem cellsP_one (p : Int × Int) : (cellsP p).all (·.oneCell') = true := by
  refine Array.all_eq_true_iff_forall_mem.2 (fun u hu => ?_)
  simp only [cellsP, pairRow, List.mem_toArray, List.mem_cons, List.not_mem_nil, or_false] at hu
  rcases hu with rfl | rfl <;> rfl
theorem cellsP_size (p : Int × Int) : (cellsP p).size = 2 := rfl
theorem infoP : (Try.prog.info? 37).map (·.size) = some 2 := by kernel_rfl
theorem infoM : (Try.prog.info? 61).map (·.size) = some 2 := by kernel_rfl
theorem infoI : ∃ i, Try.prog.info? 3 = some i := by
  have h : (Try.prog.info? 3).isSome = true := by kernel_rfl
  exact Option.isSome_iff_exists.1 h
theorem eq_pair (x y : Int × Int) (w : World) : (Op.equalIn 10000 61 (.agg (cellsP x)) (.agg (cellsP y))).run Try.prog w = .ok (decide (x = y)) w := by
  obtain ⟨i, hi⟩ := infoI
  rw [run_equalIn_array w 9999 (cellsP x) (cellsP y) Try.underlying61 hi, show Try.prog.cellsOf 3 = 1 by kernel_rfl]
  have hI := Try.underlying3
  have p0 : (part 3 (cellsP x) 0).run Try.prog w = .ok (.int .i64 x.1) w := run_part_plain w (plainKey_int hI) rfl
  have p1 : (part 3 (cellsP x) 1).run Try.prog w = .ok (.int .i64 x.2) w := run_part_plain w (plainKey_int hI) rfl
  have q0 : (part 3 (cellsP y) 0).run Try.prog w = .ok (.int .i64 y.1) w := run_part_plain w (plainKey_int hI) rfl
  have q1 : (part 3 (cellsP y) 1).run Try.prog w = .ok (.int .i64 y.2) w := run_part_plain w (plainKey_int hI) rfl
  have e0 : (Op.equalIn 9999 3 (.int .i64 x.1) (.int .i64 y.1)).run Try.prog w = _ := run_equalIn_int (P := Try.prog) w 9998 _ .i64 .i64 x.1 y.1 hI
  have e1 : (Op.equalIn 9999 3 (.int .i64 x.2) (.int .i64 y.2)).run Try.prog w = _ := run_equalIn_int (P := Try.prog) w 9998 _ .i64 .i64 x.2 y.2 hI
  rw [show List.range 2 = [0, 1] from rfl]
  simp only [Op.eqItems, Sem.run_bind, Nat.zero_mul, Nat.one_mul, p0, q0, e0, Result.andThen_ok]
  by_cases h0 : x.1 = y.1
  · have hb : (x.1 == y.1) = true := by simpa using h0
    simp [hb, p1, q1, e1]
    by_cases h1 : x.2 = y.2 <;> simp [h0, h1, Prod.ext_iff]
  · simp [h0, Prod.ext_iff]
theorem exec_eqp {a : Act} {dst : Option Tmp} {yt ty : TypeId} {x y : Operand} {pos : String} {after : Array Edge} {guard : Option (Nat × Bool)} {w : World} {p q : Int × Int} {r : Bool} (hx : a.eval x = .agg (cellsP p)) (hy : a.eval y = .agg (cellsP q)) (hr : decide (p = q) = r) :
    (execOp a.eval { dst, op := .binOp .eql 61 x y yt, type := ty, pos, after, guard }).run Try.prog w = .ok (.value (.bool r)) w := by
  simp only [execOp, hx, hy, Sem.run_bind, run_eqGuard_agg w .eql _ x y _ _ (show Try.prog.eqGuardType Try.prog.depth 61 = false by kernel_rfl), Result.andThen_ok, run_eql_struct, eq_pair p q w, Sem.run_pure, hr]

/-! ### in memory -/
/-- The elements of a slice at a are those of q; their block lies in no block of S. -/
def Prs (w : World) (S : Nat → Prop) (a : Option Addr) (q : List (Int × Int)) : Prop :=
  0 < q.length → ∃ b off, a = some ⟨b, off, none⟩ ∧ ¬ S b ∧ b < w.heap.size ∧ ∀ i p, q[i]? = some p → w.rangeAt b (off + i * 2) (pairRow p)
section
variable {w w' : World} {S T : Nat → Prop} {a : Option Addr} {q : List (Int × Int)}
theorem Prs.nil (w : World) (S : Nat → Prop) (a : Option Addr) : Prs w S a [] := fun h => by simp at h
theorem Prs.same (h : Prs w S a q) (hs : w.heap.size ≤ w'.heap.size) (hb : ∀ b, b < w.heap.size → ¬ S b → w'.heap[b]? = w.heap[b]?) : Prs w' S a q := fun h0 => by
  obtain ⟨b, off, h1, h2, h3, h4⟩ := h h0
  exact ⟨b, off, h1, h2, by omega, fun i v hi => World.rangeAt.same (h4 i v hi) (hb b h3 h2)⟩
theorem Prs.below (h : Prs w S a q) (hb : Below w.heap.size w w') : Prs w' S a q := h.same hb.size fun b hlt _ => hb.block b hlt
theorem Prs.more (h : Prs w S a q) (hT : ∀ i, i < w.heap.size → T i → S i) : Prs w T a q := fun h0 => by
  obtain ⟨b, off, h1, h2, h3, h4⟩ := h h0
  exact ⟨b, off, h1, fun ht => h2 (hT b h3 ht), h3, h4⟩
theorem Prs.at (h : Prs w S a q) {i : Nat} {p : Int × Int} (hi : q[i]? = some p) : ∃ b off, a = some ⟨b, off, none⟩ ∧ w.rangeAt b (off + i * 2) (pairRow p) := by
  obtain ⟨b, off, h1, _, _, h4⟩ := h (by have := (List.getElem?_eq_some_iff.1 hi).1; omega)
  exact ⟨b, off, h1, h4 i p hi⟩
end
section
variable {P : Program} {ops : Array Oper} {rest : List Oper} {op : Oper} {a : Act} {w : World} {Q : Exit → Act → World → Prop}
theorem wpList_load_pair (hgd : op.guard = none) (ty : TypeId) (x : Operand) (ho : op.op = .load ty x)
    (b o : Nat) (hx : a.eval x = .pointer (some ⟨b, o, none⟩)) (p : Int × Int) (d : TypeDesc) (hc : w.rangeAt b o (pairRow p))
    (hu : P.underlying ty = some d) (hd : d.isRow = true) (hi : (P.info? ty).map (·.size) = some 2)
    (h : wpList P ops Q rest (a.put op.dst (.agg (cellsP p))) w) : wpList P ops Q (op :: rest) a w :=
  wpList_load_mid hgd ty x ho b o hx (pairRow p) d hc hu hd hi h
theorem q_load_pair {C : World → Prop} {Qa : Act → Prop} (ty : TypeId) (x : Operand) (b o : Nat) (p : Int × Int) (d : TypeDesc) (hw : Region.wanted op (yielded ops a.tmps) = true) (ho : op.op = .load ty x) (hx : a.eval x = .pointer (some ⟨b, o, none⟩))
    (hC : ∀ w, C w → w.rangeAt b o (pairRow p)) (hu : P.underlying ty = some d) (hd : d.isRow = true) (hi : (P.info? ty).map (·.size) = some 2)
    (h : wpQuiet P ops C Qa rest (a.put op.dst (.agg (cellsP p)))) : wpQuiet P ops C Qa (op :: rest) a := by
  unfold wpQuiet
  rw [if_pos hw]
  refine ⟨_, fun w hc => ?_, h⟩
  unfold Oper.quietAt execOp
  simp only [ho, hx, Instr.loadAt, Instr.sureAddr, Sem.run_bind, Sem.run_pure, Result.andThen_ok, run_loadVar_mid w b o ty (pairRow p) d (hC w hc) hu hd hi]
  exact ⟨rfl, rfl⟩
end

/-! ### the laws' arguments -/
/-- Pairs that came in. -/
def IsPairs (w : World) (a : Option Addr) (len cap : Nat) : Prop :=
  len ≤ cap ∧ cap ≤ maxLen ∧ ∃ q : List (Int × Int), q.length = len ∧ Prs w (fun _ => False) a q
section
variable {H : Type} {enc : TypeId × Value → H} {w : World} {base : Nat} {spare : Nat → Bool} {held : Bool}
theorem trod_two {P : Program} {t e : TypeId} {fuel : Nat} {u v : Value} {x : DataW H × List MemPlace} (ht : P.underlying t = some (.array 2 e)) (hce : P.cellsOf e = 1)
    (h : DataW.trod enc P w base spare held fuel t [u, v] = some x) :
    ∃ n y z, DataW.trod enc P w base spare held n e [u] = some y ∧ DataW.trod enc P w base spare held n e [v] = some z := by
  rcases fuel with _ | n
  · simp [DataW.trod] at h
  · unfold DataW.trod at h
    rw [ht] at h
    have hr : List.range 2 = [0, 1] := rfl
    simp [hr, hce] at h
    obtain ⟨_, h⟩ := h
    cases h0 : DataW.trod enc P w base spare held n e [u] with
    | none => simp [h0] at h
    | some y =>
      cases h1 : DataW.trod enc P w base spare held n e [v] with
      | none => simp [h0, h1] at h
      | some z => exact ⟨n, y, z, h0, h1⟩
theorem trod_pair {n : Nat} {cs : List Value} {x : DataW H × List MemPlace} (hl : cs.length = 2) (h : DataW.trod enc Try.prog w base spare held n 37 cs = some x) : ∃ p : Int × Int, cs = pairRow p ∧ FitsP p := by
  match cs, hl with
  | [v0, v1], _ =>
    obtain ⟨m, y0, y1, t0, t1⟩ := trod_two Try.underlying37 (by kernel_rfl) h
    obtain ⟨k0, e0, _, q0⟩ := DataW.trod_int Try.underlying3 t0
    obtain ⟨k1, e1, _, q1⟩ := DataW.trod_int Try.underlying3 t1
    injection e0 with e0
    injection e1 with e1
    subst e0 e1
    exact ⟨(k0, k1), rfl, q0, q1⟩
theorem open_T37 {r : Reach} {b0 : Nat} {v : Value} {d : DataW H} {p : List MemPlace} (hv : Value.okWide Try.prog w r b0 37 v) (h : DataW.Trod enc Try.prog w base (fun _ => true) held 37 v d p) : ∃ c : Int × Int, v = .agg (cellsP c) ∧ FitsP c := by
  have hu := Try.underlying37
  simp only [Value.okWide, hu] at hv
  obtain ⟨cs, rfl, hsz, _⟩ := hv
  have h4 : Try.prog.cellsOf 37 = 2 := by kernel_rfl
  rw [h4] at hsz
  obtain ⟨l⟩ := cs
  obtain ⟨fuel, hf⟩ := h
  obtain ⟨p, hp, hfit⟩ := trod_pair (by simpa using hsz) (show DataW.trod enc Try.prog w base (fun _ => true) held fuel 37 l = _ from hf)
  subst hp
  exact ⟨p, rfl, hfit⟩
theorem open_S41 {r : Reach} {b0 : Nat} {v : Value} {d : DataW H} {p : List MemPlace} (hv : Value.okWide Try.prog w r b0 41 v) (h : DataW.Trod enc Try.prog w base (fun _ => true) held 41 v d p) : ∃ (a : Option Addr) (len cap : Nat), v = .slice a len cap ∧ IsPairs w a len cap := by
  obtain ⟨a, len, cap, rfl⟩ := okWide_slice Try.underlying41 hv
  refine ⟨a, len, cap, rfl, ?_⟩
  obtain ⟨fuel, hf⟩ := h
  rcases open_slice Try.underlying41 hf with h0 | ⟨x, l, c, m, n, D, Pl, hcs, hb, hl, hm, hmm, hx, hi⟩
  · have hcs := h0.1
    simp [Value.cells] at hcs
    obtain ⟨rfl, rfl, rfl⟩ := hcs
    exact ⟨by omega, by unfold maxLen; omega, [], rfl, Prs.nil _ _ _⟩
  · simp [Value.cells] at hcs
    obtain ⟨rfl, rfl, rfl⟩ := hcs
    have hC : Try.prog.cellsOf 37 = 2 := by kernel_rfl
    rw [hC] at hi
    obtain ⟨f, hfv⟩ := choose_lt (α := Int × Int) (p := fun i v => w.cells? base (x.add (i * 2)) 2 = some (pairRow v) ∧ FitsP v) (n := len) (fun i hil => by
      obtain ⟨cs', h1, h2⟩ := hi i (by rw [hmm]; simp; omega)
      obtain ⟨v, rfl, hfit⟩ := trod_pair (World.cells?_some h1).2.1 h2
      exact ⟨v, h1, hfit⟩)
    refine ⟨hl, hm, (List.range len).map f, by simp, fun h0 => ?_⟩
    simp at h0
    obtain ⟨b, off, spot⟩ := x
    have hc0 := (World.cells?_some (hfv 0 h0).1).2.2 0 (by omega)
    rw [Nat.zero_mul] at hc0
    have hs : spot = none := by
      have := World.cell?_spot hc0
      simpa [Addr.add] using this
    subst hs
    refine ⟨b, off, rfl, fun h => h, by have := cell_lt hc0; rwa [add_plain, add_plain] at this, fun i v hiv => ?_⟩
    simp only [List.getElem?_map] at hiv
    have hil : i < len := by
      rcases Nat.lt_or_ge i len with h | h
      · exact h
      · simp [h] at hiv
    simp [hil] at hiv
    subst hiv
    exact range_of_cells (hfv i hil).1
end
end Go.Proofs.Ytnaheindlkehhaa
