/- A map that holds just the entries of a list, in whatever order they were laid in; the region of a map's literal, whose insertions come up in whatever order. No program in sight. -/
import Derived.Test.YtniehmlklbggdaaDoorFirst
import Derived.Maps.Own
import Derived.DeepKeys4
namespace Go.Proofs.YtniehmlklbggdaaDoor
open Go Go.RowKit Go.Maps
open Go.ChangeMaps (setBlock heap_setBlock_same heap_setBlock_other)

/-- Block b is a map whose entries are those of L. -/
def TabAt (w : World) (b : Nat) (L : List (Value × Value)) : Prop :=
  ∃ es clock, w.heap[b]? = some (.map es clock) ∧ (es.toList.map fun e => (e.key, e.val)).Perm L

section
variable {P : Program} {w w' : World} {b B : Nat} {L : List (Value × Value)} {t k e : TypeId}
theorem TabAt.lt (h : TabAt w b L) : b < w.heap.size := by
  obtain ⟨es, clock, hb, _⟩ := h
  exact (Array.getElem?_eq_some_iff.1 hb).1
theorem TabAt.below (h : TabAt w b L) (hb : Below B w w') (hB : b < B) : TabAt w' b L := by
  obtain ⟨es, clock, h1, h2⟩ := h
  exact ⟨es, clock, (hb.block b hB).trans h1, h2⟩
theorem TabAt.drew (h : TabAt w b L) : TabAt w.drew b L := h
theorem TabAt.drewN (h : TabAt w b L) (n : Nat) : TabAt (w.drewN n) b L := h
theorem TabAt.perm {M : List (Value × Value)} (h : TabAt w b L) (hp : L.Perm M) : TabAt w b M := by
  obtain ⟨es, clock, h1, h2⟩ := h
  exact ⟨es, clock, h1, h2.trans hp⟩
theorem tabAt_made (w : World) : TabAt (w.alloc (.map #[] 0)) w.heap.size [] := ⟨#[], 0, (MapKept.heap_alloc w _).1, .nil⟩

theorem TabAt.keys {es : Array MapEntry} (hp : (es.toList.map fun e => (e.key, e.val)).Perm L) (hall : ∀ p ∈ L, ∃ l, keyOf P k p.1 = some l) : ∀ x ∈ es.toList, ∃ l, keyOf P k x.key = some l :=
  fun x hx => hall _ (hp.mem_iff.1 (List.mem_map.2 ⟨x, hx, rfl⟩))
/-- 'v, ok := m[k]'. -/
theorem TabAt.lookup (h : TabAt w b L) (K : Keyed P k) (ht : P.underlying t = some (.map k e)) {z : Value} (hz : (zeroValue e).run P w = .ok z w) (hall : ∀ p ∈ L, ∃ l, keyOf P k p.1 = some l) {key : Value} {kl : Lit} (hkey : keyOf P k key = some kl) :
    (∃ v, (key, v) ∈ L ∧ (Instr.lookup t (.map (some b)) key true).run P w = .ok (.tuple #[v, .bool true]) w) ∨
      ((∀ p ∈ L, p.1 ≠ key) ∧ (Instr.lookup t (.map (some b)) key true).run P w = .ok (.tuple #[z, .bool false]) w) := by
  obtain ⟨es, clock, hb, hp⟩ := h
  rcases K.find w hkey es.toList (TabAt.keys hp hall) with ⟨h1, h2⟩ | ⟨j, e0, h1, h2, h3⟩
  · refine .inr ⟨fun p hp' e => ?_, by simp [Instr.lookup, run_underlying ht, MapKept.run_getObj_map hb, K.check w _ hkey, h1, hz, Result.andThen]⟩
    obtain ⟨x, hx, rfl⟩ := List.mem_map.1 (hp.mem_iff.2 hp')
    exact h2 x hx e
  · refine .inl ⟨e0.val, hp.mem_iff.1 (List.mem_map.2 ⟨e0, List.mem_of_getElem? h2, by rw [h3]⟩), by simp [Instr.lookup, run_underlying ht, MapKept.run_getObj_map hb, K.check w _ hkey, h1, Result.andThen]⟩
/-- An insertion at a key that is not there. -/
theorem TabAt.insert (h : TabAt w b L) (K : Keyed P k) (ht : P.underlying t = some (.map k e)) (hall : ∀ p ∈ L, ∃ l, keyOf P k p.1 = some l) {key val : Value} {kl : Lit} (hkey : keyOf P k key = some kl) (hne : ∀ p ∈ L, p.1 ≠ key) :
    ∃ w', (Instr.mapUpdate t (.map (some b)) key val).run P w = .ok () w' ∧ TabAt w' b ((key, val) :: L) ∧ w.grownBy w' (some b) := by
  obtain ⟨es, clock, hb, hp⟩ := h
  rcases K.find w hkey es.toList (TabAt.keys hp hall) with ⟨h1, h2⟩ | ⟨j, e0, h1, h2, h3⟩
  · refine ⟨setBlock w b (.map (es.push ⟨key, val, clock⟩) (clock + 1)), ?_, ⟨_, _, heap_setBlock_same hb _, ?_⟩, ⟨rfl, rfl, rfl, by simp [setBlock], fun i _ hi => heap_setBlock_other hb _ (fun e => hi (by rw [e]))⟩⟩
    · simp [Instr.mapUpdate, run_underlying ht, MapKept.run_getObj_map hb, K.check w false hkey, h1, MapKept.run_setObj_map _ hb, Result.andThen, setBlock]
    · rw [Array.toList_push, List.map_append]
      exact (List.perm_append_singleton _ _).trans (hp.cons _)
  · exact absurd h3 (hne _ (hp.mem_iff.1 (List.mem_map.2 ⟨e0, List.mem_of_getElem? h2, rfl⟩)))
/-- .. at the operation. -/
theorem wp_insert {o : Oper} {a : Act} {K' : Act → World → Prop} {Q : Exit → Act → World → Prop} (h : TabAt w b L) (K : Keyed P k) (m x v : Operand) (ho : o.op = .insert t m x v) (hd : o.dst = none) (key val : Value) (hm : a.eval m = .map (some b)) (hx : a.eval x = key) (hv : a.eval v = val)
    (ht : P.underlying t = some (.map k e)) (hall : ∀ p ∈ L, ∃ l, keyOf P k p.1 = some l) {kl : Lit} (hkey : keyOf P k key = some kl) (hne : ∀ p ∈ L, p.1 ≠ key)
    (hK : ∀ w', TabAt w' b ((key, val) :: L) → w.grownBy w' (some b) → K' a w') : o.wp P a w K' Q := by
  obtain ⟨w', hrun, r1, r2⟩ := h.insert K ht hall hkey hne (val := val)
  have hK1 := hK w' r1 r2
  unfold Oper.wp
  simp [execOp, ho, hm, hx, hv, hrun, Result.andThen]
  show K' (a.put o.dst undef) w'
  rw [hd]
  exact hK1
end

section
variable {P : Program} {ops : Array Oper} {Q : Exit → Act → World → Prop} {md : Region.Mode} {S : World → Prop} {n : Nat} {L : Array Bool → Act → World → Prop}
/-- Operations that leave the frame and come up in whatever order: J f says what holds when f of them are left. -/
theorem headF_inv (J : Nat → Array Bool → World → Prop) (a : Act)
    (hstep : ∀ f listed w, J (f + 1) listed w → Region.ready md ops listed ≠ [] ∧ ∀ i ∈ Region.ready md ops listed, i < n ∧ wpOp P ops Q i (fun a' w' => a' = a ∧ S w' ∧ J f (listed.setIfInBounds i true) w') a w)
    (hend : ∀ listed w, J 0 listed w → L listed a w) : ∀ f listed w, J f listed w → wpHeadF P md ops Q S n L f listed a w
  | 0, listed, w, h => hend listed w h
  | f + 1, listed, w, h => by
    obtain ⟨h1, h2⟩ := hstep f listed w h
    exact ⟨h1, fun i hi => ⟨(h2 i hi).1, wpOp_mono (fun a' w' ⟨ha, hS, hJ⟩ => ⟨hS, by subst ha; exact headF_inv J a' hstep hend f _ w' hJ⟩) (h2 i hi).2⟩⟩

/-- The literal's region at some moment: 'at_ j' is the operation that lays entry j; D are laid, R are left; all but those and the tail (from n on) are listed. -/
def LitJ (ent : Nat → Value × Value) (at_ : Nat → Nat) (base : Array Bool) (N b : Nat) (w0 : World) (f : Nat) (listed : Array Bool) (w : World) : Prop :=
  ∃ D R : List Nat, R.length = f ∧ (D ++ R).Perm (List.range N) ∧ listed.size = base.size ∧ (∀ i, listed.getD i true = (base.getD i true || D.any fun j => at_ j == i)) ∧ TabAt w b (D.map ent) ∧ Below w0.heap.size w0 w ∧ w0.heap.size ≤ b

theorem litJ_start {ent : Nat → Value × Value} {at_ : Nat → Nat} {base : Array Bool} {N b : Nat} {w0 w : World} (h : TabAt w b []) (hb : Below w0.heap.size w0 w) (h0 : w0.heap.size ≤ b) : LitJ ent at_ base N b w0 N base w :=
  ⟨[], List.range N, by simp, by simp, rfl, by simp, h, hb, h0⟩
theorem litJ_end {ent : Nat → Value × Value} {at_ : Nat → Nat} {base listed : Array Bool} {N b : Nat} {w0 w : World} (h : LitJ ent at_ base N b w0 0 listed w) :
    (∀ i, listed.getD i true = (base.getD i true || (List.range N).any fun j => at_ j == i)) ∧ listed.size = base.size ∧ TabAt w b ((List.range N).map ent) ∧ Below w0.heap.size w0 w ∧ w0.heap.size ≤ b := by
  obtain ⟨D, R, hR, hp, hs, hl, ht, hb, h0⟩ := h
  obtain rfl := List.eq_nil_of_length_eq_zero hR
  rw [List.append_nil] at hp
  exact ⟨fun i => by rw [hl i, hp.any_eq], hs, ht.perm (hp.map _), hb, h0⟩

/-- What is asked of the text: entries' operations are told apart, are not listed at the start, and wait for nothing that is not; whatever else is not listed at the start waits for each of them, or for another such. -/
def litB (md : Region.Mode) (ops : Array Oper) (n : Nat) (base : Array Bool) (N : Nat) (at_ : Nat → Nat) : Bool :=
  ((List.range N).all fun j => ((List.range N).all fun j' => !(at_ j == at_ j') || j == j') && !(base.getD (at_ j) true) && Nat.blt (at_ j) n &&
    (match ops[at_ j]? with | some o => o.after.all fun e => !(Region.binds md e) || base.getD e.on false | none => false)) &&
  (List.range base.size).all fun i => base.getD i true || ((List.range N).any fun j => at_ j == i) ||
    ((List.range N).all fun j => (List.range base.size).any fun i' => !(base.getD i' true) && Region.waitsFor md ops i i' && (i' == at_ j || (List.range N).all fun j' => !(at_ j' == i')))
theorem litJ_step {ent : Nat → Value × Value} {at_ : Nat → Nat} {base : Array Bool} {N b : Nat} {w0 : World} {a : Act} (hB : litB md ops n base N at_ = true)
    (hwp : ∀ j D w, j < N → (∀ x ∈ D, x < N ∧ x ≠ j) → TabAt w b (D.map ent) → ∀ K : Act → World → Prop, (∀ w', TabAt w' b ((j :: D).map ent) → w.grownBy w' (some b) → K a w') → wpOp P ops Q (at_ j) K a w) (hS : ∀ w, S w)
    (f : Nat) (listed : Array Bool) (w : World) (h : LitJ ent at_ base N b w0 (f + 1) listed w) :
    Region.ready md ops listed ≠ [] ∧ ∀ i ∈ Region.ready md ops listed, i < n ∧ wpOp P ops Q i (fun a' w' => a' = a ∧ S w' ∧ LitJ ent at_ base N b w0 f (listed.setIfInBounds i true) w') a w := by
  simp only [litB, Bool.and_eq_true, List.all_eq_true, List.any_eq_true, List.mem_range, Bool.or_eq_true, Bool.not_eq_true', beq_iff_eq, beq_eq_false_iff_ne, ne_eq] at hB
  have hinj : ∀ j j', j < N → j' < N → at_ j = at_ j' → j = j' := fun j j' h1 h2 he => ((hB.1 j h1).1.1.1 j' h2).resolve_left (fun h => h he)
  have hfree : ∀ j, j < N → base.getD (at_ j) true = false := fun j h1 => (hB.1 j h1).1.1.2
  have hlt : ∀ j, j < N → at_ j < n := fun j h1 => by simpa using (hB.1 j h1).1.2
  have hready : ∀ j, j < N → ∃ o, ops[at_ j]? = some o ∧ ∀ e ∈ o.after, Region.binds md e = true → base.getD e.on false = true := fun j h1 => by
    have := (hB.1 j h1).2
    cases ho : ops[at_ j]? with
    | none => rw [ho] at this; cases this
    | some o =>
      rw [ho] at this
      refine ⟨o, rfl, fun e he hb => ?_⟩
      have := Array.all_eq_true_iff_forall_mem.1 this e he
      simpa [hb] using this
  have hwait : ∀ i, base.getD i true = false → (∃ j, j < N ∧ at_ j = i) ∨ ∀ j, j < N → ∃ i', base.getD i' true = false ∧ Region.waitsFor md ops i i' = true ∧ ((∀ j', j' < N → at_ j' ≠ i') ∨ i' = at_ j) := fun i hi => by
    have hib : i < base.size := by
      rcases Nat.lt_or_ge i base.size with h | h
      · exact h
      · simp [Array.getElem?_eq_none h] at hi
    rcases hB.2 i hib with (h1 | h1) | h1
    · rw [hi] at h1; cases h1
    · exact .inl h1
    · refine .inr fun j hj => ?_
      obtain ⟨i', _, ⟨h2, h3⟩, h4⟩ := h1 j hj
      exact ⟨i', h2, h3, h4.symm⟩
  clear hB
  obtain ⟨D, R, hR, hp, hs, hl, ht, hb, h0⟩ := h
  have hnd : (D ++ R).Nodup := hp.nodup_iff.2 List.nodup_range
  have hmem : ∀ j, j < N ↔ j ∈ D ∨ j ∈ R := fun j => by rw [← List.mem_range, ← hp.mem_iff, List.mem_append]
  have hDR : ∀ j ∈ R, j ∉ D := fun j hj hd => (List.nodup_append.1 hnd).2.2 j hd j hj rfl
  have hat : ∀ j ∈ R, listed.getD (at_ j) true = false := fun j hj => by
    rw [hl, hfree j ((hmem j).2 (.inr hj)), Bool.false_or, List.any_eq_false]
    intro j' hj' he
    obtain rfl := hinj j' j ((hmem j').2 (.inl hj')) ((hmem j).2 (.inr hj)) (by simpa using he)
    exact hDR j' hj hj'
  cases R with
  | nil => simp at hR
  | cons r R =>
    have hbd : ∀ i, base.getD i false = true → listed.getD i false = true := fun i hi => by
      have hib : i < base.size := by
        rcases Nat.lt_or_ge i base.size with h | h
        · exact h
        · simp [Array.getElem?_eq_none h] at hi
      have h2 := hl i
      have h3 : base.getD i true = true := by simp [hib] at hi ⊢; exact hi
      rw [h3, Bool.true_or] at h2
      simp [hs, hib] at h2 ⊢
      exact h2
    refine ⟨fun he => ?_, fun i hi => ?_⟩
    · have hrN : r < N := (hmem r).2 (.inr (by simp))
      obtain ⟨o, ho, hall⟩ := hready r hrN
      have : at_ r ∈ Region.ready md ops listed := mem_ready.2 ⟨hat r (by simp), o, ho, fun e he hbi => hbd _ (hall e he hbi)⟩
      rw [he] at this
      cases this
    · obtain ⟨hun, o, ho, hall⟩ := mem_ready.1 hi
      have hub : base.getD i true = false := by
        have := hl i
        rw [hun] at this
        simp only [Bool.false_eq, Bool.or_eq_false_iff] at this
        exact this.1
      rcases hwait i hub with ⟨j, hj, rfl⟩ | hw
      · have hjD : j ∉ D := fun hd => by
          have := hl (at_ j)
          rw [hun] at this
          simp only [Bool.false_eq, Bool.or_eq_false_iff, List.any_eq_false] at this
          exact this.2 j hd (by simp)
        have hjR : j ∈ r :: R := ((hmem j).1 hj).resolve_left hjD
        refine ⟨hlt j hj, hwp j D w hj (fun x hx => ⟨(hmem x).2 (.inl hx), fun e => hjD (e ▸ hx)⟩) ht _ fun w' ht' hg => ⟨rfl, hS w', j :: D, (r :: R).erase j, ?_, ?_, by simpa using hs, fun i => ?_, ht', ?_, h0⟩⟩
        · rw [List.length_erase_of_mem hjR]
          omega
        · refine List.Perm.trans ?_ hp
          rw [List.cons_append]
          exact List.perm_middle.symm.trans ((List.perm_cons_erase hjR).symm.append_left D)
        · rw [List.any_cons]
          by_cases hij : at_ j = i
          · subst hij
            rw [Array.getD_eq_getD_getElem?, Array.getElem?_setIfInBounds]
            simp
            split <;> simp
          · rw [getD_set_ne true hij, hl i, show (at_ j == i) = false by simpa using hij, Bool.false_or]
        · exact hb.grown hg hb.size (fun k hk => by injection hk with hk; omega)
      · obtain ⟨i', hi', hwf, hor⟩ := hw r ((hmem r).2 (.inr (by simp)))
        exfalso
        unfold Region.waitsFor at hwf
        rw [ho] at hwf
        obtain ⟨e, he, hbe⟩ := Array.any_eq_true'.1 hwf
        simp only [Bool.and_eq_true, beq_iff_eq] at hbe
        have h1 := hall e he hbe.1
        rw [hbe.2] at h1
        have h2 : listed.getD i' true = false := by
          rcases hor with h | rfl
          · rw [hl i', hi', Bool.false_or, List.any_eq_false]
            intro j' hj' he'
            exact h j' ((hmem j').2 (.inl hj')) (by simpa using he')
          · exact hat r (by simp)
        rw [getD_both h2] at h1
        cases h1
end
section
variable {P : Program} {ops : Array Oper} {Q : Exit → Act → World → Prop} {md : Region.Mode} {n : Nat} {L : Array Bool → Act → World → Prop}
def litEnd (base : Array Bool) (N : Nat) (at_ : Nat → Nat) : Array Bool := (Array.range base.size).map fun i => base.getD i true || (List.range N).any fun j => at_ j == i
/-- A literal's insertions, in whatever order. -/
theorem headF_lit {ent : Nat → Value × Value} {at_ : Nat → Nat} {listed : Array Bool} {N b : Nat} {w0 w : World} {a : Act} (hB : litB md ops n listed N at_ = true)
    (hwp : ∀ j D w, j < N → (∀ x ∈ D, x < N ∧ x ≠ j) → TabAt w b (D.map ent) → ∀ K : Act → World → Prop, (∀ w', TabAt w' b ((j :: D).map ent) → w.grownBy w' (some b) → K a w') → wpOp P ops Q (at_ j) K a w)
    (hT : TabAt w b []) (hb : Below w0.heap.size w0 w) (h0 : w0.heap.size ≤ b)
    (hend : ∀ w', TabAt w' b ((List.range N).map ent) → Below w0.heap.size w0 w' → L (litEnd listed N at_) a w') : wpHeadF P md ops Q (fun _ => True) n L N listed a w := by
  refine headF_inv (LitJ ent at_ listed N b w0) a (fun f l w h => litJ_step hB hwp (fun _ => trivial) f l w h) (fun l w h => ?_) N listed w (litJ_start hT hb h0)
  obtain ⟨h1, h2, h3, h4, _⟩ := litJ_end h
  have : l = litEnd listed N at_ := by
    refine Array.ext (by simp [litEnd, h2]) fun i hi hi' => ?_
    have := h1 i
    simp [litEnd, hi] at this ⊢
    exact this
  rw [this]
  exact hend w h3 h4
theorem wp_makeMap {o : Oper} {a : Act} {w : World} {K : Act → World → Prop} (t : TypeId) (ho : o.op = .makeMap t none) (h : K (a.put o.dst (.map (some w.heap.size))) (w.alloc (.map #[] 0))) : o.wp P a w K Q := by
  unfold Oper.wp execOp
  simp only [ho, Option.map_none, Sem.run_bind, run_makeMap, Result.andThen_ok, Sem.run_pure]
  exact h
end

section
variable {P : Program}
/-- A key that is a struct of two integers. -/
theorem keyOf_ints2 {k : TypeId} {f0 f1 : Field} {q0 q1 : IntKind} {n : Nat} (hu : P.underlying k = some (.struct #[f0, f1])) (h0 : P.underlying f0.type = some (.int q0)) (h1 : P.underlying f1.type = some (.int q1))
    (hk : P.keyType k = true) (hn : P.types.size = n + 1) (hC : P.cellsOf k = 2) (hC0 : P.cellsOf f0.type = 1) (hC1 : P.cellsOf f1.type = 1) (ho0 : f0.offset = 0) (ho1 : f1.offset = 1) (hn0 : (f0.name != "_") = true) (hn1 : (f1.name != "_") = true)
    {x y : Int} (hx : (Lit.int q0 x).wf = true) (hy : (Lit.int q1 y).wf = true) : ∃ l, keyOf P k (.agg #[.int q0 x, .int q1 y]) = some l := by
  have e0 : ∀ d, P.keyLits (d + 1) f0.type [.int q0 x] = some [.int q0 x] := fun d => by simp [Program.keyLits, h0, hx]
  have e1 : ∀ d, P.keyLits (d + 1) f1.type [.int q1 y] = some [.int q1 y] := fun d => by simp [Program.keyLits, h1, hy]
  have e : P.keyLits (n + 1 + 1) k [.int q0 x, .int q1 y] = some [.int q0 x, .int q1 y] := by
    unfold Program.keyLits
    simp only [hu]
    rw [if_pos ⟨by simp [hC], by simp [hn0, hn1]⟩]
    simp [ho0, ho1, hC0, hC1, e0, e1]
  have hkf : (P.keyType k && (Value.agg #[.int q0 x, .int q1 y]).formed P k) = true := by simp [hk, Value.formed, hu, hC]
  have he : keyOf P k (.agg #[.int q0 x, .int q1 y]) = (P.keyLits (P.types.size + 1) k [.int q0 x, .int q1 y]).map fun ls => .string (keyBytes ls) := by
    unfold keyOf
    simp only [hu]
    rw [if_pos hkf]
    rfl
  rw [he, hn, e]
  exact ⟨_, rfl⟩
end
end Go.Proofs.YtniehmlklbggdaaDoor
