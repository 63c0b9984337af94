/- A map whose keys are integers: for each key what a function says, or none where the key is not there. No program in sight. -/
import Derived.Test.YthnhpmeacboljaaWords
import Derived.Maps.Own
import Derived.DeepKeys4
namespace Go.Proofs.Ythnhpmeacboljaa
open Go Go.RowKit Go.Maps
set_option linter.unusedVariables false
open Go.ChangeMaps (setBlock heap_setBlock_same heap_setBlock_other)

/-- Block m is a map that holds at each integer key what f says. -/
def MapF (w : World) (m : Nat) (f : Int → Option Value) : Prop :=
  ∃ es clock, w.heap[m]? = some (.map es clock) ∧ (∀ e ∈ es.toList, ∃ q : Int, (Lit.int .i64 q).wf = true ∧ e.key = .int .i64 q ∧ f q = some e.val) ∧ (es.toList.map (·.key)).Nodup ∧ ∀ q, (f q).isSome = true → ∃ e ∈ es.toList, e.key = .int .i64 q

def updF {α : Type} (f : Int → Option α) (q : Int) (v : α) : Int → Option α := fun x => if x = q then some v else f x

section
variable {P : Program} {w w' : World} {m B : Nat} {f : Int → Option Value} {t k e : TypeId}
theorem MapF.lt (h : MapF w m f) : m < w.heap.size := by
  obtain ⟨es, clock, hb, _⟩ := h
  exact (Array.getElem?_eq_some_iff.1 hb).1
theorem MapF.same (h : MapF w m f) (hb : w'.heap[m]? = w.heap[m]?) : MapF w' m f := by
  obtain ⟨es, clock, h1, h2⟩ := h
  exact ⟨es, clock, hb.trans h1, h2⟩
theorem MapF.drewN (h : MapF w m f) (n : Nat) : MapF (w.drewN n) m f := h
theorem MapF.drew (h : MapF w m f) : MapF w.drew m f := h
theorem MapF.alloc (h : MapF w m f) (o : Obj) : MapF (w.alloc o) m f := h.same (Below.heap_alloc w o m h.lt)
theorem MapF.grown {row : Option Nat} (h : MapF w m f) (hg : w.grownBy w' row) (hne : some m ≠ row) : MapF w' m f := h.same (hg.block m h.lt hne)
theorem MapF.setCell (h : MapF w m f) {p : Addr} (hp : m ≠ p.block) (u : Value) : MapF (w.setCell p u) m f := h.same (Below.heap_setCell w p u m hp)
theorem MapF.below (h : MapF w m f) (hb : Below w.heap.size w w') : MapF w' m f := h.same (hb.block m h.lt)
theorem MapF.congr {g : Int → Option Value} (h : MapF w m f) (hc : ∀ q, f q = g q) : MapF w m g := by
  obtain rfl : f = g := funext hc
  exact h
theorem mapF_made (w : World) : MapF (w.alloc (.map #[] 0)) w.heap.size (fun _ => none) := ⟨#[], 0, (MapKept.heap_alloc w _).1, by simp, by simp, fun q h => by simp at h⟩
theorem MapF.keys {es : Array MapEntry} (hk : P.underlying k = some (.int .i64)) (h : ∀ e ∈ es.toList, ∃ q : Int, (Lit.int .i64 q).wf = true ∧ e.key = .int .i64 q ∧ f q = some e.val) : ∀ x ∈ es.toList, ∃ l, keyOf P k x.key = some l := fun x hx => by
  obtain ⟨q, hq, h1, _⟩ := h x hx
  exact ⟨_, by rw [h1]; exact keyOf_int_mk hk hq⟩
/-- What a look-up answers: with or without 'ok'. -/
def lookV (ok : Bool) (z : Value) : Option Value → Value
  | some v => if ok then .tuple #[v, .bool true] else v
  | none => if ok then .tuple #[z, .bool false] else z
/-- 'm[k]'. -/
theorem MapF.lookup (h : MapF w m f) (hk : P.underlying k = some (.int .i64)) (ht : P.underlying t = some (.map k e)) {z : Value} (hz : (zeroValue e).run P w = .ok z w) {q : Int} (hq : (Lit.int .i64 q).wf = true) (ok : Bool) :
    (Instr.lookup t (.map (some m)) (.int .i64 q) ok).run P w = .ok (lookV ok z (f q)) w := by
  obtain ⟨es, clock, hb, h1, h2, h3⟩ := h
  have K := int_keyed hk
  have hkey := keyOf_int_mk hk hq
  rcases K.find w hkey es.toList (MapF.keys hk h1) with ⟨f1, f2⟩ | ⟨j, e0, f1, f2, f3⟩
  · have hc : f q = none := by
      cases h0 : f q with
      | none => rfl
      | some v =>
        obtain ⟨x, hx, hxk⟩ := h3 q (by rw [h0]; rfl)
        exact absurd hxk (f2 x hx)
    rw [hc]
    cases ok <;> simp [lookV, Instr.lookup, run_underlying ht, MapKept.run_getObj_map hb, K.check w _ hkey, f1, hz, Result.andThen]
  · obtain ⟨q', _, e1, e2⟩ := h1 e0 (List.mem_of_getElem? f2)
    rw [f3] at e1
    injection e1 with _ e1
    subst e1
    rw [e2]
    cases ok <;> simp [lookV, Instr.lookup, run_underlying ht, MapKept.run_getObj_map hb, K.check w _ hkey, f1, Result.andThen]
/-- 'm[k] = v'. -/
theorem MapF.update (h : MapF w m f) (hk : P.underlying k = some (.int .i64)) (ht : P.underlying t = some (.map k e)) {q : Int} {v : Value} (hq : (Lit.int .i64 q).wf = true) :
    ∃ w', (Instr.mapUpdate t (.map (some m)) (.int .i64 q) v).run P w = .ok () w' ∧ MapF w' m (updF f q v) ∧ w.grownBy w' (some m) := by
  obtain ⟨es, clock, hb, h1, h2, h3⟩ := h
  have K := int_keyed hk
  have hkey := keyOf_int_mk hk hq
  have hg : ∀ es' clock', w.grownBy (setBlock w m (.map es' clock')) (some m) := fun es' clock' => ⟨rfl, rfl, rfl, by simp [setBlock], fun i _ hi => heap_setBlock_other hb _ (fun e => hi (by rw [e]))⟩
  rcases K.find w hkey es.toList (MapF.keys hk h1) with ⟨f1, f2⟩ | ⟨j, e0, f1, f2, f3⟩
  · refine ⟨setBlock w m (.map (es.push ⟨.int .i64 q, v, clock⟩) (clock + 1)), ?_, ⟨_, _, heap_setBlock_same hb _, fun x hx => ?_, ?_, fun q' hq' => ?_⟩, hg _ _⟩
    · simp [Instr.mapUpdate, run_underlying ht, MapKept.run_getObj_map hb, K.check w false hkey, f1, MapKept.run_setObj_map _ hb, Result.andThen, setBlock]
    · simp only [Array.toList_push, List.mem_append, List.mem_singleton] at hx
      rcases hx with hx | rfl
      · obtain ⟨q', w1, e1, e2⟩ := h1 x hx
        have hne : q' ≠ q := by rintro rfl; exact f2 x hx e1
        exact ⟨q', w1, e1, by simp [updF, hne, e2]⟩
      · exact ⟨q, hq, rfl, by simp [updF]⟩
    · rw [Array.toList_push, List.map_append, List.map_singleton]
      refine List.nodup_append.2 ⟨h2, by simp, fun a ha b hb' => ?_⟩
      obtain ⟨x, hx, rfl⟩ := List.mem_map.1 ha
      obtain rfl := List.mem_singleton.1 hb'
      exact f2 x hx
    · by_cases hqq : q' = q
      · subst hqq
        exact ⟨_, by rw [Array.toList_push]; exact List.mem_append_right _ (List.mem_singleton.2 rfl), rfl⟩
      · obtain ⟨x, hx, hxk⟩ := h3 q' (by simpa [updF, hqq] using hq')
        exact ⟨x, by rw [Array.toList_push]; exact List.mem_append_left _ hx, hxk⟩
  · have hj : es[j]? = some e0 := by simpa using f2
    have hjl : j < es.toList.length := (List.getElem?_eq_some_iff.1 f2).1
    have hlist : (es.modify j (fun e' => { e' with key := .int .i64 q, val := v })).toList = es.toList.set j { e0 with key := .int .i64 q, val := v } := by rw [Array.toList_modify, Go.ChangeMaps.modify_eq_set _ _ _ _ f2]
    have hkeys : ((es.modify j (fun e' => { e' with key := .int .i64 q, val := v })).toList.map (·.key)) = es.toList.map (·.key) := by
      rw [hlist, List.map_set]
      refine List.ext_getElem? fun i => ?_
      rw [List.getElem?_set]
      split
      · rename_i hi
        subst hi
        have hjs : j < es.size := by simpa using hjl
        have hj2 : es.toList[j]'hjl = e0 := by simpa [List.getElem?_eq_getElem hjl] using f2
        simp [hjs]
        simp at hj2
        rw [hj2, f3]
      · rfl
    refine ⟨setBlock w m (.map (es.modify j (fun e' => { e' with key := .int .i64 q, val := v })) clock), ?_, ⟨_, _, heap_setBlock_same hb _, fun x hx => ?_, by rw [hkeys]; exact h2, fun q' hq' => ?_⟩, hg _ _⟩
    · simp [Instr.mapUpdate, run_underlying ht, MapKept.run_getObj_map hb, K.check w false hkey, f1, hj, f3, K.stays w hkey, MapKept.run_setObj_map _ hb, Result.andThen, setBlock]
    · rw [hlist] at hx
      obtain ⟨i, hi, ex⟩ := List.getElem_of_mem hx
      rw [List.getElem_set] at ex
      split at ex
      · subst ex
        exact ⟨q, hq, rfl, by simp [updF]⟩
      · rename_i hne
        have hi' : i < es.toList.length := by simpa using hi
        obtain ⟨q', w1, e1, e2⟩ := h1 x (ex ▸ List.getElem_mem hi')
        have hne' : q' ≠ q := by
          rintro rfl
          have hn := List.pairwise_iff_getElem.1 h2
          have a1 : (es.toList.map (·.key))[i]? = some (.int .i64 q') := by rw [List.getElem?_map, List.getElem?_eq_getElem hi', ex]; simp [e1]
          have a2 : (es.toList.map (·.key))[j]? = some (.int .i64 q') := by rw [List.getElem?_map, f2]; simp [f3]
          obtain ⟨l1, e3⟩ := List.getElem?_eq_some_iff.1 a1
          obtain ⟨l2, e4⟩ := List.getElem?_eq_some_iff.1 a2
          rcases Nat.lt_or_gt_of_ne hne with hlt | hlt
          · exact hn j i l2 l1 hlt (e4.trans e3.symm)
          · exact hn i j l1 l2 hlt (e3.trans e4.symm)
        exact ⟨q', w1, e1, by simp [updF, hne', e2]⟩
    · have hk' : (.int .i64 q' : Value) ∈ es.toList.map (·.key) := by
        by_cases hqq : q' = q
        · subst hqq
          exact List.mem_map.2 ⟨e0, List.mem_of_getElem? f2, f3⟩
        · obtain ⟨x, hx, hxk⟩ := h3 q' (by simpa [updF, hqq] using hq')
          exact List.mem_map.2 ⟨x, hx, hxk⟩
      rw [← hkeys] at hk'
      obtain ⟨x, hx, hxk⟩ := List.mem_map.1 hk'
      exact ⟨x, hx, hxk⟩
end

section
variable {P : Program} {ops : Array Oper} {rest : List Oper} {o : Oper} {a : Act} {w : World} {Q : Exit → Act → World → Prop} {b : Nat} {f : Int → Option Value} {t k e : TypeId}
/-- An update as an operation. -/
theorem wpOp_mapF (hgd : o.guard = none) (m x v : Operand) (ho : o.op = .mapUpdate t m x v) (h : MapF w b f) (hk : P.underlying k = some (.int .i64)) (ht : P.underlying t = some (.map k e)) (q : Int) (u : Value) (hm : a.eval m = .map (some b)) (hx : a.eval x = .int .i64 q) (hv : a.eval v = u) (hq : (Lit.int .i64 q).wf = true) {K : Act → World → Prop}
    (hK : ∀ w', MapF w' b (updF f q u) → w.grownBy w' (some b) → K (a.put o.dst undef) w') : o.wp P a w K Q := by
  obtain ⟨w', hrun, r1, r2⟩ := h.update hk ht hq (v := u)
  unfold Oper.wp
  simp [execOp, ho, hm, hx, hv, hrun, Result.andThen]
  exact hK w' r1 r2
theorem wpList_mapF (hgd : o.guard = none) (m x v : Operand) (ho : o.op = .mapUpdate t m x v) (h : MapF w b f) (hk : P.underlying k = some (.int .i64)) (ht : P.underlying t = some (.map k e)) (q : Int) (u : Value) (hm : a.eval m = .map (some b)) (hx : a.eval x = .int .i64 q) (hv : a.eval v = u) (hq : (Lit.int .i64 q).wf = true)
    (hK : ∀ w', MapF w' b (updF f q u) → w.grownBy w' (some b) → wpList P ops Q rest (a.put o.dst undef) w') : wpList P ops Q (o :: rest) a w :=
  wpList_plain hgd fun K' hK' => wpOp_mapF hgd m x v ho h hk ht q u hm hx hv hq fun w' r1 r2 => hK' _ _ (hK w' r1 r2)
/-- A look-up, one operation after another. -/
theorem wpList_lookF (hgd : o.guard = none) (ok : Bool) (m x : Operand) (ho : o.op = .lookup t m x ok) (h : MapF w b f) (hk : P.underlying k = some (.int .i64)) (ht : P.underlying t = some (.map k e)) (z : Value) (hz : (zeroValue e).run P w = .ok z w) (q : Int) (hm : a.eval m = .map (some b)) (hx : a.eval x = .int .i64 q) (hq : (Lit.int .i64 q).wf = true) (v : Value) (hv : lookV ok z (f q) = v)
    (hK : wpList P ops Q rest (a.put o.dst v) w) : wpList P ops Q (o :: rest) a w := by
  refine wpList_plain hgd fun K' hK' => ?_
  have hrun := h.lookup hk ht hz hq ok
  rw [hv] at hrun
  unfold Oper.wp
  simp [execOp, ho, hm, hx, hrun, Result.andThen]
  exact hK' _ _ hK
/-- A look-up, in a quiet head. -/
theorem q_lookF {C : World → Prop} {Qa : Act → Prop} (ok : Bool) (m x : Operand) (hw : Region.wanted o (yielded ops a.tmps) = true) (ho : o.op = .lookup t m x ok) (hC : ∀ w, C w → MapF w b f) (hk : P.underlying k = some (.int .i64)) (ht : P.underlying t = some (.map k e)) (z : Value) (hz : ∀ w, (zeroValue e).run P w = .ok z w) (q : Int) (hm : a.eval m = .map (some b)) (hx : a.eval x = .int .i64 q) (hq : (Lit.int .i64 q).wf = true) (v : Value) (hv : lookV ok z (f q) = v)
    (h : wpQuiet P ops C Qa rest (a.put o.dst v)) : wpQuiet P ops C Qa (o :: rest) a := by
  unfold wpQuiet
  rw [if_pos hw]
  refine ⟨_, fun w hc => ?_, h⟩
  have hrun := (hC w hc).lookup hk ht (hz w) hq ok
  rw [hv] at hrun
  unfold Oper.quietAt execOp
  simp only [ho, hm, hx, Sem.run_bind, hrun, Result.andThen_ok, Sem.run_pure]
  exact ⟨rfl, rfl⟩
end
end Go.Proofs.Ythnhpmeacboljaa
