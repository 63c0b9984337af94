/- A region that draws its order and makes or writes memory: the operations that only read are taken first, in the text's order (one walk, in a class S of worlds); the others come up in whatever order their edges allow; S is to be shown anew behind each of those but the last. No program in sight. -/
import Derived.Test.YthnhpmeacboljaaClass
import Derived.StillTailTactics
import Derived.OrdersHeld
import Derived.Deep.RegionHeld3
namespace Go.Proofs.Ythnhpmeacboljaa
open Go Go.RowKit

/-- It yields a value: it never enters a function. -/
def plainOp (o : Oper) : Bool :=
  match o.op with
  | .move _ | .assign _ | .build .. | .load .. | .nilCheck _ | .binOp .. | .unOp .. | .convert .. | .slice .. | .fieldAddr .. | .field .. | .indexAddr .. | .index .. | .extract .. | .pick .. | .lookup .. => true
  | .call { callee := .builtin .len, .. } | .call { callee := .builtin .cap, .. } | .call { callee := .builtin .min, .. } | .call { callee := .builtin .max, .. } => true
  | _ => false

section
variable {P : Program} {ops : Array Oper} {Q : Exit → Act → World → Prop} {md : Region.Mode} {S : World → Prop}

def ValuesOnly (P : Program) (m : Sem Next) : Prop := ∀ w n w', m.run P w = .ok n w' → ∃ v, n = .value v
theorem vo_pure (v : Value) : ValuesOnly P (pure (.value v)) := fun w n w' h => by
  rw [Sem.run_pure] at h
  injection h with h _
  exact ⟨v, h.symm⟩
theorem vo_bind {α : Type} {m : Sem α} {k : α → Sem Next} (h : ∀ x, ValuesOnly P (k x)) : ValuesOnly P (m >>= k) := fun w n w' hr => by
  rw [Sem.run_bind] at hr
  cases hm : m.run P w with
  | ok x w1 => rw [hm, Result.andThen_ok] at hr; exact h x _ _ _ hr
  | halt x w1 => rw [hm] at hr; cases hr
theorem vo_panic : ValuesOnly P (runtimePanic (.nilDeref : RuntimeError)) := fun w n w' h => by simp [runtimePanic, goPanic] at h

theorem vo_then {r : Result Value} {n : Next} {w' : World} (h : (r.andThen fun a w1 => .ok (Next.value a) w1) = .ok n w') : ∃ v, n = .value v := by
  cases r with
  | ok x w1 => rw [Result.andThen_ok] at h; injection h with h _; exact ⟨x, h.symm⟩
  | halt x w1 => cases h
theorem plain_values {o : Oper} (hp : plainOp o = true) (ρ : Operand → Value) : ValuesOnly P (execOp ρ o) := by
  unfold execOp
  unfold plainOp at hp
  cases ho : o.op <;> rw [ho] at hp <;> try (cases hp; done)
  case nilCheck x =>
    dsimp only
    split
    · exact vo_panic
    · exact vo_panic
    · exact vo_panic
    · split
      · exact vo_panic
      · exact vo_bind fun _ => vo_bind fun _ => by
          split
          · exact vo_bind fun _ => vo_pure _
          · exact vo_pure _
      · exact vo_pure _
    · exact vo_pure _
  case move => exact vo_pure _
  case assign => exact vo_pure _
  case pick => exact vo_bind fun _ => vo_pure _
  case call c =>
    obtain ⟨cal, args, ats⟩ := c
    cases cal with
    | builtin b =>
      cases b <;> try (cases hp; done)
      all_goals
        intro w n w' h
        simp only [resolve, Sem.run_bind, Sem.run_pure, Result.andThen_ok, invoke, builtin] at h
        exact vo_then h
    | invoke => cases hp
    | value => cases hp
  all_goals exact vo_bind fun _ => vo_pure _

/-- Whatever order is picked, the head's operations come first, and S holds behind each of them. -/
def wpHeadF (P : Program) (md : Region.Mode) (ops : Array Oper) (Q : Exit → Act → World → Prop) (S : World → Prop) (n : Nat) (L : Array Bool → Act → World → Prop) : Nat → Array Bool → Act → World → Prop
  | 0, listed, a, w => L listed a w
  | f + 1, listed, a, w =>
    Region.ready md ops listed ≠ [] ∧ ∀ i ∈ Region.ready md ops listed, i < n ∧ wpOp P ops Q i (fun a' w' => S w' ∧ wpHeadF P md ops Q S n L f (listed.setIfInBounds i true) a' w') a w

theorem wpAny_of_headF {n g : Nat} {L : Array Bool → Act → World → Prop} (hL : ∀ listed a w, L listed a w → wpAny P md ops Q g listed a w) :
    ∀ (f : Nat) (listed : Array Bool) (a : Act) (w : World), wpHeadF P md ops Q S n L f listed a w → wpAny P md ops Q (f + g) listed a w
  | 0, listed, a, w, h => by rw [Nat.zero_add]; exact hL _ _ _ h
  | f + 1, listed, a, w, h => by
    rw [show f + 1 + g = (f + g) + 1 by omega]
    exact ⟨fun h0 => absurd h0 h.1, fun i hi => wpOp_mono (fun a' w' h' => wpAny_of_headF hL f _ a' w' h'.2) (h.2 i hi).2⟩

theorem wpHeadF_first {n i : Nat} {oi : Oper} {v : Value} {L : Array Bool → Act → World → Prop} (hi : ops[i]? = some oi) (hsel : ∀ (j : Nat) (o : Oper) cs b, ops[j]? = some o → o.op ≠ .select cs b)
    (hs : Region.sinkB md ops n = true) (hc : Region.chainB md ops n = true) (hn : n < ops.size) (hin : i < n)
    (hQ : ∀ c a w, Q (.panic c) (a.put oi.dst v) w → Q (.panic c) a w)
    (hdone : ∀ listed a w, L listed a w → ∀ j ∈ Region.ready md ops listed, n ≤ j) :
    ∀ (f : Nat) (listed : Array Bool) (a : Act) (w : World), HeadInv md ops n listed →
      (∀ j oj, ops[j]? = some oj → j ≠ i → listed.getD j true = false → (∀ e ∈ oj.after, Region.binds md e = true → e.on ≠ i) → oi.apart ops oj = true) →
      i ∈ Region.ready md ops listed → YieldsIf P ops S oi v a → S w →
      wpHeadF P md ops Q S n L f (listed.setIfInBounds i true) (a.put oi.dst v) w → wpHeadF P md ops Q S n L (f + 1) listed a w := by
  intro f
  induction f with
  | zero =>
    intro listed a w inv _ hr hy hS H
    have hun := (mem_ready.1 hr).1
    refine ⟨fun h => (by rw [h] at hr; cases hr), fun j hj => ?_⟩
    have hjn : j < n := by
      rcases Nat.lt_or_ge j n with h | h
      · exact h
      · exact absurd hj (tail_waits hs hc hn inv _ i rfl hin hun j h)
    refine ⟨hjn, ?_⟩
    by_cases hji : j = i
    · subst hji; exact hy.wpOp hi hS ⟨hS, H⟩
    · have := hdone _ _ _ H j (ready_mono hj hji)
      omega
  | succ f ih =>
    intro listed a w inv hfree hr hy hS H
    have hun := (mem_ready.1 hr).1
    refine ⟨fun h => (by rw [h] at hr; cases hr), fun j hj => ?_⟩
    have hjn : j < n := by
      rcases Nat.lt_or_ge j n with h | h
      · exact h
      · exact absurd hj (tail_waits hs hc hn inv _ i rfl hin hun j h)
    refine ⟨hjn, ?_⟩
    by_cases hji : j = i
    · subst hji; exact hy.wpOp hi hS ⟨hS, H⟩
    · have h1 := (H.2 j (ready_mono hj hji)).2
      obtain ⟨hjun, oj, hoj, hall⟩ := mem_ready.1 hj
      have hnot : ∀ e ∈ oj.after, Region.binds md e = true → e.on ≠ i := fun e he hb heq => by
        have h1 := hall e he hb
        rw [heq, getD_both hun] at h1
        cases h1
      have h2 := wpOp_putIf hoj (hfree j oj hoj hji hjun hnot) (fun cs b => hsel i oi cs b hi) (fun cs b => hsel j oj cs b hoj) hQ hy h1
      have hfree' : ∀ k ok, ops[k]? = some ok → k ≠ i → (listed.setIfInBounds j true).getD k true = false →
          (∀ e ∈ ok.after, Region.binds md e = true → e.on ≠ i) → oi.apart ops ok = true := fun k ok hk hki hun hno => by
        refine hfree k ok hk hki ?_ hno
        by_cases hjk : j = k
        · subst hjk; exact hjun
        · rw [getD_set_ne true hjk] at hun; exact hun
      refine wpOp_mono (fun a' w' h3 => ⟨h3.2.1, ih (listed.setIfInBounds j true) a' w' (inv.set hj hjn) hfree' (ready_mono hr (Ne.symm hji)) h3.1 h3.2.1 ?_⟩) h2
      rw [Array.setIfInBounds_comm _ _ hji]
      exact h3.2.2

/-- Those that are taken first may come up in this order, are free, and yield values. -/
def takeB (md : Region.Mode) (ops : Array Oper) (n : Nat) : List Nat → Array Bool → Bool
  | [], _ => true
  | k :: ks, listed => decide (k < n) && (match ops[k]? with | some o => plainOp o | none => false) && (Region.ready md ops listed).contains k && Region.free md ops listed k && takeB md ops n ks (listed.setIfInBounds k true)
def listAll : List Nat → Array Bool → Array Bool
  | [], listed => listed
  | k :: ks, listed => listAll ks (listed.setIfInBounds k true)

theorem yieldsIf_of_quiet {o : Oper} {a : Act} {K : Act → Prop} {i : Nat} (hi : ops[i]? = some o) (hp : plainOp o = true) (h : qOp P ops S i K a) : ∃ v, YieldsIf P ops S o v a ∧ K (a.put o.dst v) := by
  obtain ⟨v, hy, hk⟩ := yieldsIn_of_qOp hi h
  refine ⟨v, ?_, hk⟩
  rcases hy with ⟨hw, hv⟩ | ⟨hw, hv⟩
  · refine .inl ⟨hw, fun w hS => ?_⟩
    have h3 := hv w hS
    have hpv := plain_values (P := P) hp a.eval w
    unfold Oper.quietAt at h3
    generalize (execOp a.eval o).run P w = r at *
    cases r with
    | ok x w' =>
      obtain ⟨u, rfl⟩ := hpv x w' rfl
      simp only [Oper.quietUpon] at h3
      rw [h3.1, h3.2]
    | halt x w' => simp only [Oper.quietUpon] at h3
  · exact .inr ⟨hw, hv⟩

theorem wpHeadF_takes {n : Nat} {L : Array Bool → Act → World → Prop} {w : World} (hsel : Region.noSelect ops = true)
    (hs : Region.sinkB md ops n = true) (hc : Region.chainB md ops n = true) (hn : n < ops.size) (hQ : ∀ c a w, Q (.panic c) a w → False)
    (hdone : ∀ listed a w, L listed a w → ∀ j ∈ Region.ready md ops listed, n ≤ j) (hS : S w) (f : Nat) :
    ∀ (ks : List Nat) (listed : Array Bool) (a : Act), HeadInv md ops n listed → takeB md ops n ks listed = true →
      wpQuiet P ops S (fun a' => wpHeadF P md ops Q S n L f (listAll ks listed) a' w) (ks.filterMap fun k => ops[k]?) a → wpHeadF P md ops Q S n L (f + ks.length) listed a w
  | [], listed, a, _, _, h => h
  | k :: ks, listed, a, inv, hB, h => by
    simp only [takeB, Bool.and_eq_true, decide_eq_true_eq] at hB
    obtain ⟨⟨⟨⟨hkn, hp⟩, hr⟩, hf⟩, hB'⟩ := hB
    cases ho : ops[k]? with
    | none => rw [ho] at hp; cases hp
    | some o =>
      rw [ho] at hp
      rw [List.filterMap_cons_some ho] at h
      have hr' : k ∈ Region.ready md ops listed := by simpa using hr
      have hq : qOp P ops S k (wpQuiet P ops S (fun a' => wpHeadF P md ops Q S n L f (listAll ks (listed.setIfInBounds k true)) a' w) (ks.filterMap fun k => ops[k]?)) a := by unfold qOp; simp only [ho]; exact h
      obtain ⟨v, hy, hK⟩ := yieldsIf_of_quiet ho hp hq
      exact wpHeadF_first ho (Region.noSelect_spec hsel) hs hc hn hkn (fun c a w h => (hQ _ _ _ h).elim) hdone (f + ks.length) listed a w inv (Region.free_spec ho hf) hr' hy hS
        (wpHeadF_takes hsel hs hc hn hQ hdone hS f ks _ _ (inv.set hr' hkn) hB' hK)

/-- **The region's law**: ks are taken first (in worlds of S), the rest of the first n come up in whatever order, those from n on behind them all, in the text's order. -/
theorem wp_region_first {P : Program} {id : Nat} {Q : Exit → Act → World → Prop} {a : Act} {w : World} {l : List Oper} (S : World → Prop) (n f : Nat) (ks : List Nat) (hm : P.follows .mixedOrders = true)
    (hB : (Region.noSelect l.toArray && decide (n < l.toArray.size) && Region.sinkB .any l.toArray n && Region.chainB .any l.toArray n && takeB .any l.toArray n ks (Array.replicate l.toArray.size false) && decide (f + ks.length = n)) = true)
    (hS : S w.drew)
    (h : wpQuiet P l.toArray S (fun a' => wpHeadF P .any l.toArray (NoPanic Q) S n (fun listed a' w' => Region.seqB .any l.toArray (l.toArray.size - n) n listed = true ∧ wpList P l.toArray (NoPanic Q) (l.drop n) a' w') f (listAll ks (Array.replicate l.toArray.size false)) a' w.drew) (ks.filterMap fun k => l.toArray[k]?) a) :
    (Code.region id l.toArray true).wp P Q a w := by
  simp only [Bool.and_eq_true, decide_eq_true_eq] at hB
  obtain ⟨⟨⟨⟨⟨hsel, hn⟩, hs⟩, hc⟩, ht⟩, hf⟩ := hB
  refine wp_region_noPanic (wp_region_any hm ?_)
  have hdl : (l.drop n).length = l.toArray.size - n := by simp
  have inv0 : HeadInv .any l.toArray n (Array.replicate l.toArray.size false) :=
    ⟨by simp, fun j oj _ hl => (by rw [getD_replicate_false] at hl; cases hl), fun t _ ht => getD_in (by simpa using ht) (getD_replicate_false _ _)⟩
  have H := wpHeadF_takes (Q := NoPanic Q) hsel hs hc hn (fun _ _ _ h => h) (fun listed a w hL => seqB_ready hL.1) hS f ks _ a inv0 ht h
  have := wpAny_of_headF (Q := NoPanic Q) (g := l.toArray.size - n) (fun listed a' w' hL => by
    have := wpAny_of_seq (md := .any) (Q' := NoPanic Q) (l.drop n) n listed a' w' (fun j => by simp [List.getElem?_drop]) (by rw [hdl]; exact hL.1) hL.2
    rwa [hdl] at this) _ _ _ _ H
  rw [hf, show n + (l.toArray.size - n) = l.toArray.size by omega] at this
  exact this

theorem wpHeadF_mono {S' : World → Prop} (hS : ∀ w, S' w → S w) {n : Nat} {L : Array Bool → Act → World → Prop} : ∀ (f : Nat) (listed : Array Bool) (a : Act) (w : World), wpHeadF P md ops Q S' n L f listed a w → wpHeadF P md ops Q S n L f listed a w
  | 0, _, _, _, h => h
  | f + 1, _, _, _, h => ⟨h.1, fun i hi => ⟨(h.2 i hi).1, wpOp_mono (fun a' w' h' => ⟨hS _ h'.1, wpHeadF_mono hS f _ a' w' h'.2⟩) (h.2 i hi).2⟩⟩
/-- What is listed is closed, and lies before number n. -/
def headInvB (md : Region.Mode) (ops : Array Oper) (n : Nat) (listed : Array Bool) : Bool :=
  Nat.beq listed.size ops.size && ((List.range ops.size).all fun j => !(listed.getD j false) || (match ops[j]? with | some o => o.after.toList.all fun e => !(Region.binds md e) || listed.getD e.on false | none => true)) &&
    ((List.range ops.size).all fun t => Nat.blt t n || !(listed.getD t true))
theorem headInv_of {n : Nat} {listed : Array Bool} (h : headInvB md ops n listed = true) : HeadInv md ops n listed := by
  simp only [headInvB, Bool.and_eq_true, List.all_eq_true, List.mem_range, Bool.or_eq_true, Bool.not_eq_true'] at h
  obtain ⟨⟨h1, h2⟩, h3⟩ := h
  refine ⟨Nat.eq_of_beq_eq_true h1, fun j oj hj hl e he hb => ?_, fun t ht htl => ?_⟩
  · have hjl : j < ops.size := (Array.getElem?_eq_some_iff.1 hj).1
    rcases h2 j hjl with h | h
    · rw [hl] at h; cases h
    · rw [hj] at h
      simp only [List.all_eq_true, Bool.or_eq_true, Bool.not_eq_true'] at h
      rcases h e (by simpa using he) with h | h
      · rw [hb] at h; cases h
      · exact h
  · rcases h3 t htl with h | h
    · have : t < n := by simpa using h
      omega
    · exact h
/-- In the midst of a walk: ks are taken now, in worlds of a stronger class. -/
theorem headF_takes {n f m : Nat} {l : List Oper} {Q : Exit → Act → World → Prop} {a : Act} {w : World} {listed : Array Bool} (S' : World → Prop) (ks : List Nat) (hSS : ∀ w, S' w → S w)
    (hB : (Region.noSelect l.toArray && decide (n < l.toArray.size) && Region.sinkB .any l.toArray n && Region.chainB .any l.toArray n && headInvB .any l.toArray n listed && takeB .any l.toArray n ks listed && decide (f + ks.length = m)) = true) (hS : S' w)
    (h : wpQuiet P l.toArray S' (fun a' => wpHeadF P .any l.toArray (NoPanic Q) S' n (fun listed a' w' => Region.seqB .any l.toArray (l.toArray.size - n) n listed = true ∧ wpList P l.toArray (NoPanic Q) (l.drop n) a' w') f (listAll ks listed) a' w) (ks.filterMap fun k => l.toArray[k]?) a) :
    wpHeadF P .any l.toArray (NoPanic Q) S n (fun listed a' w' => Region.seqB .any l.toArray (l.toArray.size - n) n listed = true ∧ wpList P l.toArray (NoPanic Q) (l.drop n) a' w') m listed a w := by
  simp only [Bool.and_eq_true, decide_eq_true_eq] at hB
  obtain ⟨⟨⟨⟨⟨⟨hsel, hn⟩, hs⟩, hc⟩, hi⟩, ht⟩, hf⟩ := hB
  refine wpHeadF_mono hSS m listed a w ?_
  rw [← hf]
  exact wpHeadF_takes (Q := NoPanic Q) hsel hs hc hn (fun _ _ _ h => h) (fun listed a w hL => seqB_ready hL.1) hS f ks _ a (headInv_of hi) ht h
theorem headF_one {n f i : Nat} {L : Array Bool → Act → World → Prop} {listed : Array Bool} {a : Act} {w : World} (hr : Region.ready md ops listed = [i]) (hi : i < n)
    (h : wpOp P ops Q i (fun a' w' => S w' ∧ wpHeadF P md ops Q S n L f (listed.setIfInBounds i true) a' w') a w) : wpHeadF P md ops Q S n L (f + 1) listed a w := by
  refine ⟨by rw [hr]; simp, fun j hj => ?_⟩
  rw [hr] at hj
  obtain rfl : j = i := by simpa using hj
  exact ⟨hi, h⟩
theorem headF_two {n f i k : Nat} {L : Array Bool → Act → World → Prop} {listed : Array Bool} {a : Act} {w : World} (hr : Region.ready md ops listed = [i, k]) (hi : i < n) (hk : k < n)
    (h1 : wpOp P ops Q i (fun a' w' => S w' ∧ wpHeadF P md ops Q S n L f (listed.setIfInBounds i true) a' w') a w)
    (h2 : wpOp P ops Q k (fun a' w' => S w' ∧ wpHeadF P md ops Q S n L f (listed.setIfInBounds k true) a' w') a w) : wpHeadF P md ops Q S n L (f + 1) listed a w := by
  refine ⟨by rw [hr]; simp, fun j hj => ?_⟩
  rw [hr] at hj
  rcases (by simpa using hj : j = i ∨ j = k) with rfl | rfl
  · exact ⟨hi, h1⟩
  · exact ⟨hk, h2⟩
theorem wpOp_at {i : Nat} {o : Oper} {K : Act → World → Prop} {a : Act} {w : World} (ho : ops[i]? = some o) (hg : o.guard = none) (h : o.wp P a w K Q) : wpOp P ops Q i K a w := by
  unfold wpOp
  rw [ho]
  simp only [Region.wanted, hg, if_true]
  exact .inl h
theorem wpOp_atG {i : Nat} {o : Oper} {K : Act → World → Prop} {a : Act} {w : World} (ho : ops[i]? = some o) (hg : Region.wanted o (yielded ops a.tmps) = true) (h : o.wp P a w K Q) : wpOp P ops Q i K a w := by
  unfold wpOp
  rw [ho]
  simp only [hg, if_true]
  exact .inl h
/-- A load of one cell, taken first. -/
theorem q_cell {Qa : Act → Prop} {a : Act} {o : Oper} {rest : List Oper} (ty : TypeId) (x : Operand) (p : Addr) (v : Value) (hw : Region.wanted o (yielded ops a.tmps) = true) (ho : o.op = .load ty x) (hx : a.eval x = .pointer (some p))
    (hl : ∀ w, w.cell? p = some v → (Instr.loadAt ty (.pointer (some p))).run P w = .ok v w) (hS : ∀ w, S w → w.cell? p = some v) (h : wpQuiet P ops S Qa rest (a.put o.dst v)) : wpQuiet P ops S Qa (o :: rest) a := by
  refine q_valC v hw (fun w hc => ?_) h
  unfold execOp
  simp only [ho, hx, Sem.run_bind, Sem.run_pure, Result.andThen_ok, hl w (hS w hc)]
end
section
variable {P : Program}
theorem run_buildSlice_zero (w : World) (T e : TypeId) (i : TypeInfo) (ht : P.underlying T = some (.slice e)) (hi : P.info? e = some i) :
    (Instr.buildSlice T 0 #[]).run P w = .ok (.slice (some ⟨w.heap.size, 0, none⟩) 0 0) (w.alloc (.cells #[] e)) := by
  simp [Instr.buildSlice, run_underlying ht, sizeOf, typeInfo, hi, Instr.fill, newRow, go_sem]
theorem wp_buildSlice_zero {o : Oper} {a : Act} {w : World} {K : Act → World → Prop} {Q : Exit → Act → World → Prop} (T e : TypeId) (i : TypeInfo) (ho : o.op = .buildSlice T 0 #[]) (ht : P.underlying T = some (.slice e)) (hi : P.info? e = some i)
    (h : K (a.put o.dst (.slice (some ⟨w.heap.size, 0, none⟩) 0 0)) (w.alloc (.cells #[] e))) : o.wp P a w K Q := by
  unfold Oper.wp execOp
  simp only [ho, List.map_toArray, List.map_nil, Sem.run_bind, run_buildSlice_zero w T e i ht hi, Result.andThen_ok, Sem.run_pure]
  exact h
theorem run_buildSlice_one (w : World) (T e : TypeId) (i : TypeInfo) (z v : Value) (ht : P.underlying T = some (.slice e)) (hi : P.info? e = some i) (hz : i.zero = some z) (hs : i.size = 1) (hz1 : z.cells.size = 1) (h1 : v.cells = #[v]) :
    (Instr.buildSlice T 1 #[(0, v)]).run P w = .ok (.slice (some ⟨w.heap.size, 0, none⟩) 1 1) (w.alloc (.cells #[v] e)) := by
  simp [Instr.buildSlice, run_underlying ht, sizeOf, typeInfo, hi, hs, zeroValue, hz, Instr.fill, newRow, h1, hz1]
  simp [go_sem]
theorem wp_buildSlice_one {o : Oper} {a : Act} {w : World} {K : Act → World → Prop} {Q : Exit → Act → World → Prop} (T e : TypeId) (i : TypeInfo) (x : Operand) (z v : Value) (ho : o.op = .buildSlice T 1 #[(0, x)]) (hx : a.eval x = v) (ht : P.underlying T = some (.slice e)) (hi : P.info? e = some i) (hz : i.zero = some z) (hs : i.size = 1) (hz1 : z.cells.size = 1) (h1 : v.cells = #[v])
    (h : K (a.put o.dst (.slice (some ⟨w.heap.size, 0, none⟩) 1 1)) (w.alloc (.cells #[v] e))) : o.wp P a w K Q := by
  unfold Oper.wp execOp
  simp only [ho, List.map_toArray, List.map_cons, List.map_nil, hx, Sem.run_bind, run_buildSlice_one w T e i z v ht hi hz hs hz1 h1, Result.andThen_ok, Sem.run_pure]
  exact h
/-- A call by its contract. -/
theorem wp_call_at {o : Oper} {a : Act} {w : World} {K : Act → World → Prop} {Q : Exit → Act → World → Prop} {f : FuncId} {xs : Array Operand} {ats : Array TypeId} (ho : o.op = .call { callee := .value (.func f), args := xs, argTypes := ats }) (vs : Array Value)
    (hvs : #[] ++ xs.map a.eval ++ #[] = vs) (hcall : ∀ args w, (callFunc f args).run P w = .ok (.enter f args) w) (hC : Calls P f vs w fun e w' => ∃ v, e = .returned v ∧ K (a.put o.dst v) w') : o.wp P a w K Q := by
  obtain ⟨dst, op, ty, pos, after, guard⟩ := o
  dsimp only at ho hC
  subst ho
  unfold Oper.wp
  have e : execOp a.eval { dst, op := .call { callee := .value (.func f), args := xs, argTypes := ats }, type := ty, pos, after, guard } = callFunc f (#[] ++ xs.map a.eval ++ #[]) := rfl
  rw [e, hcall, hvs]
  exact hC.mono fun e w' ⟨v, he, hk⟩ => by subst he; exact hk
end
end Go.Proofs.Ythnhpmeacboljaa
