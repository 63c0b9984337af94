/- A map of counters: for each integer key what a function says (an entry may say 0, a key that is not there says 0). No program in sight. -/
import Derived.Test.YtcmlkcmoailhjaaWords
import Derived.Maps.Own
import Derived.DeepKeys4
namespace Go.Proofs.Ytcmlkcmoailhjaa
open Go Go.RowKit Go.Maps
open Go.ChangeMaps (setBlock heap_setBlock_same heap_setBlock_other)

/-- Block m is a map from int to int that counts as c says. -/
def CntAt (w : World) (m : Nat) (c : Int → Int) : Prop :=
  ∃ es clock, w.heap[m]? = some (.map es clock) ∧ (∀ e ∈ es.toList, ∃ q : Int, (Lit.int .i64 q).wf = true ∧ e.key = .int .i64 q ∧ e.val = .int .i64 (c q)) ∧ (es.toList.map (·.key)).Nodup ∧ ∀ q, c q ≠ 0 → ∃ e ∈ es.toList, e.key = .int .i64 q

def upd (c : Int → Int) (q v : Int) : Int → Int := fun x => if x = q then v else c x

section
variable {P : Program} {w w' : World} {m B : Nat} {c : Int → Int} {t k e : TypeId}
theorem CntAt.lt (h : CntAt w m c) : m < w.heap.size := by
  obtain ⟨es, clock, hb, _⟩ := h
  exact (Array.getElem?_eq_some_iff.1 hb).1
theorem CntAt.same (h : CntAt w m c) (hb : w'.heap[m]? = w.heap[m]?) : CntAt w' m c := by
  obtain ⟨es, clock, h1, h2⟩ := h
  exact ⟨es, clock, hb.trans h1, h2⟩
theorem CntAt.drewN (h : CntAt w m c) (n : Nat) : CntAt (w.drewN n) m c := h
theorem CntAt.drew (h : CntAt w m c) : CntAt w.drew m c := h
theorem CntAt.alloc (h : CntAt w m c) (o : Obj) : CntAt (w.alloc o) m c := h.same (Below.heap_alloc w o m h.lt)
theorem CntAt.grown {row : Option Nat} (h : CntAt w m c) (hg : w.grownBy w' row) (hne : some m ≠ row) : CntAt w' m c := h.same (hg.block m h.lt hne)
theorem CntAt.setCell (h : CntAt w m c) {p : Addr} (hp : m ≠ p.block) (u : Value) : CntAt (w.setCell p u) m c := h.same (Below.heap_setCell w p u m hp)
theorem CntAt.congr {c' : Int → Int} (h : CntAt w m c) (hc : ∀ q, c q = c' q) : CntAt w m c' := by
  obtain rfl : c = c' := funext hc
  exact h
theorem cntAt_made (w : World) : CntAt (w.alloc (.map #[] 0)) w.heap.size (fun _ => 0) := ⟨#[], 0, (MapKept.heap_alloc w _).1, by simp, by simp, fun q h => absurd rfl h⟩
theorem CntAt.keys {es : Array MapEntry} (hk : P.underlying k = some (.int .i64)) (h : ∀ e ∈ es.toList, ∃ q : Int, (Lit.int .i64 q).wf = true ∧ e.key = .int .i64 q ∧ e.val = .int .i64 (c q)) : ∀ x ∈ es.toList, ∃ l, keyOf P k x.key = some l := fun x hx => by
  obtain ⟨q, hq, h1, _⟩ := h x hx
  exact ⟨_, by rw [h1]; exact keyOf_int_mk hk hq⟩
/-- 'm[k]'. -/
theorem CntAt.lookup (h : CntAt w m c) (hk : P.underlying k = some (.int .i64)) (ht : P.underlying t = some (.map k e)) (hz : (zeroValue e).run P w = .ok (.int .i64 0) w) {q : Int} (hq : (Lit.int .i64 q).wf = true) :
    (Instr.lookup t (.map (some m)) (.int .i64 q) false).run P w = .ok (.int .i64 (c q)) w := by
  obtain ⟨es, clock, hb, h1, h2, h3⟩ := h
  have K := int_keyed hk
  have hkey := keyOf_int_mk hk hq
  rcases K.find w hkey es.toList (CntAt.keys hk h1) with ⟨f1, f2⟩ | ⟨j, e0, f1, f2, f3⟩
  · have hc : c q = 0 := by
      rcases Decidable.em (c q = 0) with h0 | h0
      · exact h0
      · obtain ⟨x, hx, hxk⟩ := h3 q h0
        exact absurd hxk (f2 x hx)
    rw [hc]
    simp [Instr.lookup, run_underlying ht, MapKept.run_getObj_map hb, K.check w _ hkey, f1, hz, Result.andThen]
  · obtain ⟨q', _, e1, e2⟩ := h1 e0 (List.mem_of_getElem? f2)
    rw [f3] at e1
    injection e1 with _ e1
    subst e1
    simp [Instr.lookup, run_underlying ht, MapKept.run_getObj_map hb, K.check w _ hkey, f1, e2, Result.andThen]
/-- 'm[k] = v'. -/
theorem CntAt.update (h : CntAt w m c) (hk : P.underlying k = some (.int .i64)) (ht : P.underlying t = some (.map k e)) {q v : Int} (hq : (Lit.int .i64 q).wf = true) :
    ∃ w', (Instr.mapUpdate t (.map (some m)) (.int .i64 q) (.int .i64 v)).run P w = .ok () w' ∧ CntAt w' m (upd c q v) ∧ w.grownBy w' (some m) := by
  obtain ⟨es, clock, hb, h1, h2, h3⟩ := h
  have K := int_keyed hk
  have hkey := keyOf_int_mk hk hq
  have hg : ∀ es' clock', w.grownBy (setBlock w m (.map es' clock')) (some m) := fun es' clock' => ⟨rfl, rfl, rfl, by simp [setBlock], fun i _ hi => heap_setBlock_other hb _ (fun e => hi (by rw [e]))⟩
  rcases K.find w hkey es.toList (CntAt.keys hk h1) with ⟨f1, f2⟩ | ⟨j, e0, f1, f2, f3⟩
  · refine ⟨setBlock w m (.map (es.push ⟨.int .i64 q, .int .i64 v, clock⟩) (clock + 1)), ?_, ⟨_, _, heap_setBlock_same hb _, fun x hx => ?_, ?_, fun q' hq' => ?_⟩, hg _ _⟩
    · simp [Instr.mapUpdate, run_underlying ht, MapKept.run_getObj_map hb, K.check w false hkey, f1, MapKept.run_setObj_map _ hb, Result.andThen, setBlock]
    · simp only [Array.toList_push, List.mem_append, List.mem_singleton] at hx
      rcases hx with hx | rfl
      · obtain ⟨q', w1, e1, e2⟩ := h1 x hx
        have hne : q' ≠ q := by rintro rfl; exact f2 x hx e1
        exact ⟨q', w1, e1, by simp [upd, hne, e2]⟩
      · exact ⟨q, hq, rfl, by simp [upd]⟩
    · rw [Array.toList_push, List.map_append, List.map_singleton]
      refine List.nodup_append.2 ⟨h2, by simp, fun a ha b hb' => ?_⟩
      obtain ⟨x, hx, rfl⟩ := List.mem_map.1 ha
      obtain rfl := List.mem_singleton.1 hb'
      exact f2 x hx
    · by_cases hqq : q' = q
      · subst hqq
        exact ⟨_, by rw [Array.toList_push]; exact List.mem_append_right _ (List.mem_singleton.2 rfl), rfl⟩
      · obtain ⟨x, hx, hxk⟩ := h3 q' (by simpa [upd, hqq] using hq')
        exact ⟨x, by rw [Array.toList_push]; exact List.mem_append_left _ hx, hxk⟩
  · have hj : es[j]? = some e0 := by simpa using f2
    have hjl : j < es.toList.length := (List.getElem?_eq_some_iff.1 f2).1
    have hlist : (es.modify j (fun e' => { e' with key := .int .i64 q, val := .int .i64 v })).toList = es.toList.set j { e0 with key := .int .i64 q, val := .int .i64 v } := by rw [Array.toList_modify, Go.ChangeMaps.modify_eq_set _ _ _ _ f2]
    have hkeys : ((es.modify j (fun e' => { e' with key := .int .i64 q, val := .int .i64 v })).toList.map (·.key)) = es.toList.map (·.key) := by
      rw [hlist, List.map_set]
      refine List.ext_getElem? fun i => ?_
      rw [List.getElem?_set]
      split
      · rename_i hi
        subst hi
        have hjs : j < es.size := by simpa using hjl
        have hj2 : es.toList[j]'hjl = e0 := by simpa [List.getElem?_eq_getElem hjl] using f2
        simp [hjs]
        simp at hj2
        rw [hj2, f3]
      · rfl
    refine ⟨setBlock w m (.map (es.modify j (fun e' => { e' with key := .int .i64 q, val := .int .i64 v })) clock), ?_, ⟨_, _, heap_setBlock_same hb _, fun x hx => ?_, by rw [hkeys]; exact h2, fun q' hq' => ?_⟩, hg _ _⟩
    · simp [Instr.mapUpdate, run_underlying ht, MapKept.run_getObj_map hb, K.check w false hkey, f1, hj, f3, K.stays w hkey, MapKept.run_setObj_map _ hb, Result.andThen, setBlock]
    · rw [hlist] at hx
      obtain ⟨i, hi, ex⟩ := List.getElem_of_mem hx
      rw [List.getElem_set] at ex
      split at ex
      · subst ex
        exact ⟨q, hq, rfl, by simp [upd]⟩
      · rename_i hne
        have hi' : i < es.toList.length := by simpa using hi
        obtain ⟨q', w1, e1, e2⟩ := h1 x (ex ▸ List.getElem_mem hi')
        have hne' : q' ≠ q := by
          rintro rfl
          have hn := List.pairwise_iff_getElem.1 h2
          have a1 : (es.toList.map (·.key))[i]? = some (.int .i64 q') := by rw [List.getElem?_map, List.getElem?_eq_getElem hi', ex]; simp [e1]
          have a2 : (es.toList.map (·.key))[j]? = some (.int .i64 q') := by rw [List.getElem?_map, f2]; simp [f3]
          obtain ⟨l1, e3⟩ := List.getElem?_eq_some_iff.1 a1
          obtain ⟨l2, e4⟩ := List.getElem?_eq_some_iff.1 a2
          rcases Nat.lt_or_gt_of_ne hne with hlt | hlt
          · exact hn j i l2 l1 hlt (e4.trans e3.symm)
          · exact hn i j l1 l2 hlt (e3.trans e4.symm)
        exact ⟨q', w1, e1, by simp [upd, hne', e2]⟩
    · have hk' : (.int .i64 q' : Value) ∈ es.toList.map (·.key) := by
        by_cases hqq : q' = q
        · subst hqq
          exact List.mem_map.2 ⟨e0, List.mem_of_getElem? f2, f3⟩
        · obtain ⟨x, hx, hxk⟩ := h3 q' (by simpa [upd, hqq] using hq')
          exact List.mem_map.2 ⟨x, hx, hxk⟩
      rw [← hkeys] at hk'
      obtain ⟨x, hx, hxk⟩ := List.mem_map.1 hk'
      exact ⟨x, hx, hxk⟩
/-- 'delete(m, k)' of a key that counts 0. -/
theorem CntAt.delete (h : CntAt w m c) (hk : P.underlying k = some (.int .i64)) (ht : P.underlying t = some (.map k e)) {q : Int} (hq : (Lit.int .i64 q).wf = true) (h0 : c q = 0) (ty : TypeId) :
    ∃ w', (Builtin.delete_ #[t, k] ty #[.map (some m), .int .i64 q]).run P w = .ok (.tuple #[]) w' ∧ CntAt w' m c ∧ w.grownBy w' (some m) := by
  obtain ⟨es, clock, hb, h1, h2, h3⟩ := h
  have K := int_keyed hk
  have hkey := keyOf_int_mk hk hq
  have hg : ∀ es' clock', w.grownBy (setBlock w m (.map es' clock')) (some m) := fun es' clock' => ⟨rfl, rfl, rfl, by simp [setBlock], fun i _ hi => heap_setBlock_other hb _ (fun e => hi (by rw [e]))⟩
  rcases K.find w hkey es.toList (CntAt.keys hk h1) with ⟨f1, f2⟩ | ⟨j, e0, f1, f2, f3⟩
  · refine ⟨setBlock w m (.map es clock), ?_, ⟨_, _, heap_setBlock_same hb _, h1, h2, h3⟩, hg _ _⟩
    simp [Builtin.delete_, run_underlying ht, MapKept.run_getObj_map hb, K.check w _ hkey, f1, MapKept.run_setObj_map _ hb, Result.andThen, setBlock]
  · have hjl : j < es.toList.length := (List.getElem?_eq_some_iff.1 f2).1
    have hjs : j < es.size := by simpa using hjl
    have hsub : (es.eraseIdxIfInBounds j).toList = es.toList.eraseIdx j := by
      unfold Array.eraseIdxIfInBounds
      rw [dif_pos hjs]
      simp
    refine ⟨setBlock w m (.map (es.eraseIdxIfInBounds j) clock), ?_, ⟨_, _, heap_setBlock_same hb _, fun x hx => ?_, ?_, fun q' hq' => ?_⟩, hg _ _⟩
    · simp [Builtin.delete_, run_underlying ht, MapKept.run_getObj_map hb, K.check w _ hkey, f1, MapKept.run_setObj_map _ hb, Result.andThen, setBlock]
    · rw [hsub] at hx
      exact h1 x ((List.eraseIdx_sublist _ _).subset hx)
    · rw [hsub]
      exact h2.sublist ((List.eraseIdx_sublist _ _).map _)
    · obtain ⟨x, hx, hxk⟩ := h3 q' hq'
      refine ⟨x, ?_, hxk⟩
      rw [hsub]
      obtain ⟨i, hi⟩ := List.mem_iff_getElem?.1 hx
      refine List.mem_eraseIdx_iff_getElem?.2 ⟨i, ?_, hi⟩
      rintro rfl
      rw [f2] at hi
      injection hi with hi
      rw [← hi, f3] at hxk
      injection hxk with _ hxk
      subst hxk
      exact hq' h0
end

section
variable {P : Program} {ops : Array Oper} {rest : List Oper} {o : Oper} {a : Act} {w : World} {Q : Exit → Act → World → Prop} {b : Nat} {c : Int → Int} {t k e : TypeId}
theorem wpList_count (hgd : o.guard = none) (m x v : Operand) (ho : o.op = .mapUpdate t m x v) (h : CntAt w b c) (hk : P.underlying k = some (.int .i64)) (ht : P.underlying t = some (.map k e)) (q n : Int) (hm : a.eval m = .map (some b)) (hx : a.eval x = .int .i64 q) (hv : a.eval v = .int .i64 n) (hq : (Lit.int .i64 q).wf = true)
    (hK : ∀ w', CntAt w' b (upd c q n) → w.grownBy w' (some b) → wpList P ops Q rest (a.put o.dst undef) w') : wpList P ops Q (o :: rest) a w := by
  refine wpList_plain hgd fun K' hK' => ?_
  obtain ⟨w', hrun, r1, r2⟩ := h.update hk ht hq (v := n)
  unfold Oper.wp
  simp [execOp, ho, hm, hx, hv, hrun, Result.andThen]
  exact hK' _ _ (hK w' r1 r2)
theorem wpList_uncount (hgd : o.guard = none) (m x : Operand) (ho : o.op = .call { callee := .builtin .delete, args := #[m, x], argTypes := #[t, k] }) (h : CntAt w b c) (hk : P.underlying k = some (.int .i64)) (ht : P.underlying t = some (.map k e)) (q : Int) (hm : a.eval m = .map (some b)) (hx : a.eval x = .int .i64 q) (hq : (Lit.int .i64 q).wf = true) (h0 : c q = 0)
    (hK : ∀ w', CntAt w' b c → w.grownBy w' (some b) → wpList P ops Q rest (a.put o.dst (.tuple #[])) w') : wpList P ops Q (o :: rest) a w := by
  refine wpList_plain hgd fun K' hK' => ?_
  obtain ⟨w', hrun, r1, r2⟩ := h.delete hk ht hq h0 o.type
  unfold Oper.wp
  simp [execOp, ho, resolve, invoke, builtin, hm, hx, hrun, Result.andThen]
  exact hK' _ _ (hK w' r1 r2)
/-- A look-up, in a quiet head. -/
theorem q_count {C : World → Prop} {Qa : Act → Prop} (m x : Operand) (hw : Region.wanted o (yielded ops a.tmps) = true) (ho : o.op = .lookup t m x false) (hC : ∀ w, C w → CntAt w b c) (hk : P.underlying k = some (.int .i64)) (ht : P.underlying t = some (.map k e)) (hz : ∀ w, (zeroValue e).run P w = .ok (.int .i64 0) w) (q : Int) (hm : a.eval m = .map (some b)) (hx : a.eval x = .int .i64 q) (hq : (Lit.int .i64 q).wf = true)
    (h : wpQuiet P ops C Qa rest (a.put o.dst (.int .i64 (c q)))) : wpQuiet P ops C Qa (o :: rest) a := by
  unfold wpQuiet
  rw [if_pos hw]
  refine ⟨_, fun w hc => ?_, h⟩
  have hrun := (hC w hc).lookup hk ht (hz w) hq
  unfold Oper.quietAt execOp
  simp only [ho, hm, hx, Sem.run_bind, hrun, Result.andThen_ok, Sem.run_pure]
  exact ⟨rfl, rfl⟩
end
end Go.Proofs.Ytcmlkcmoailhjaa
