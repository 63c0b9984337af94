/- Part 5 of 29: First Build Structs L06Base WrapF WrapQ L06Book L16Val L07Base L07Sums L07Excl L07Get L07Two L07AddV. -/
import Derived.Test.YtobgbcdgffgdhaaGreatZu01
import Derived.Test.YtobgbcdgffgdhaaGreatZu03
import Derived.ChangeAt
import Derived.Deep.Fields
import Derived.Deep.RegionHeld3
import Derived.Deep.WholeRow
namespace Go.Proofs.YtobgbcdgffgdhaaGreat
set_option linter.unusedVariables false
set_option linter.unusedSimpArgs false
section
open Go Go.RowKit
def plainOp (o : Oper) : Bool :=
 match o.op with
 | .move _ | .assign _ | .build .. | .load .. | .nilCheck _ | .binOp .. | .unOp .. | .convert .. | .slice .. | .fieldAddr .. | .field .. | .indexAddr .. | .index .. | .extract .. | .pick .. | .lookup .. => true
 | .call { callee := .builtin .len, .. } | .call { callee := .builtin .cap, .. } | .call { callee := .builtin .min, .. } | .call { callee := .builtin .max, .. } => true
 | _ => false
section
variable {P : Program} {ops : Array Oper} {Q : Exit → Act → World → Prop} {md : Region.Mode} {S : World → Prop}
def ValuesOnly (P : Program) (m : Sem Next) : Prop := ∀ w n w', m.run P w = .ok n w' → ∃ v, n = .value v
theorem vo_pure (v : Value) : ValuesOnly P (pure (.value v)) := fun w n w' h => by
 rw [Sem.run_pure] at h
 injection h with h _
 exact ⟨v, h.symm⟩
theorem vo_bind {α : Type} {m : Sem α} {k : α → Sem Next} (h : ∀ x, ValuesOnly P (k x)) : ValuesOnly P (m >>= k) := fun w n w' hr => by
 rw [Sem.run_bind] at hr
 cases hm : m.run P w with
 | ok x w1 => rw [hm, Result.andThen_ok] at hr; exact h x _ _ _ hr
 | halt x w1 => rw [hm] at hr; cases hr
theorem vo_panic : ValuesOnly P (runtimePanic (.nilDeref : RuntimeError)) := fun w n w' h => by simp [runtimePanic, goPanic] at h
theorem vo_then {r : Result Value} {n : Next} {w' : World} (h : (r.andThen fun a w1 => .ok (Next.value a) w1) = .ok n w') : ∃ v, n = .value v := by
 cases r with
 | ok x w1 => rw [Result.andThen_ok] at h; injection h with h _; exact ⟨x, h.symm⟩
 | halt x w1 => cases h
theorem plain_values {o : Oper} (hp : plainOp o = true) (ρ : Operand → Value) : ValuesOnly P (execOp ρ o) := by
 unfold execOp
 unfold plainOp at hp
 cases ho : o.op <;> rw [ho] at hp <;> try (cases hp; done)
 case nilCheck x =>
  dsimp only
  split
  ·exact vo_panic
  ·exact vo_panic
  ·exact vo_panic
  ·split
   ·exact vo_panic
   ·exact vo_bind fun _ => vo_bind fun _ => by
     split
     ·exact vo_bind fun _ => vo_pure _
     ·exact vo_pure _
   ·exact vo_pure _
  ·exact vo_pure _
 case move => exact vo_pure _
 case assign => exact vo_pure _
 case pick => exact vo_bind fun _ => vo_pure _
 case call c =>
  obtain ⟨cal, args, ats⟩ := c
  cases cal with
  | builtin b =>
   cases b <;> try (cases hp; done)
   all_goals
    intro w n w' h
    simp only [resolve, Sem.run_bind, Sem.run_pure, Result.andThen_ok, invoke, builtin] at h
    exact vo_then h
  | invoke => cases hp
  | value => cases hp
 all_goals exact vo_bind fun _ => vo_pure _
def wpHeadF (P : Program) (md : Region.Mode) (ops : Array Oper) (Q : Exit → Act → World → Prop) (S : World → Prop) (n : Nat) (L : Array Bool → Act → World → Prop) : Nat → Array Bool → Act → World → Prop
 | 0, listed, a, w => L listed a w
 | f + 1, listed, a, w =>
  Region.ready md ops listed ≠ [] ∧ ∀ i ∈ Region.ready md ops listed, i < n ∧ wpOp P ops Q i (fun a' w' => S w' ∧ wpHeadF P md ops Q S n L f (listed.setIfInBounds i true) a' w') a w
theorem wpAny_of_headF {n g : Nat} {L : Array Bool → Act → World → Prop} (hL : ∀ listed a w, L listed a w → wpAny P md ops Q g listed a w) :
  ∀ (f : Nat) (listed : Array Bool) (a : Act) (w : World), wpHeadF P md ops Q S n L f listed a w → wpAny P md ops Q (f + g) listed a w
 | 0, listed, a, w, h => by rw [Nat.zero_add]; exact hL _ _ _ h
 | f + 1, listed, a, w, h => by
  rw [show f + 1 + g = (f + g) + 1 by omega]
  exact ⟨fun h0 => absurd h0 h.1, fun i hi => wpOp_mono (fun a' w' h' => wpAny_of_headF hL f _ a' w' h'.2) (h.2 i hi).2⟩
theorem wpHeadF_first {n i : Nat} {oi : Oper} {v : Value} {L : Array Bool → Act → World → Prop} (hi : ops[i]? = some oi) (hsel : ∀ (j : Nat) (o : Oper) cs b, ops[j]? = some o → o.op ≠ .select cs b)
  (hs : Region.sinkB md ops n = true) (hc : Region.chainB md ops n = true) (hn : n < ops.size) (hin : i < n)
  (hQ : ∀ c a w, Q (.panic c) (a.put oi.dst v) w → Q (.panic c) a w)
  (hdone : ∀ listed a w, L listed a w → ∀ j ∈ Region.ready md ops listed, n ≤ j) :
  ∀ (f : Nat) (listed : Array Bool) (a : Act) (w : World), HeadInv md ops n listed →
   (∀ j oj, ops[j]? = some oj → j ≠ i → listed.getD j true = false → (∀ e ∈ oj.after, Region.binds md e = true → e.on ≠ i) → oi.apart ops oj = true) →
   i ∈ Region.ready md ops listed → YieldsIf P ops S oi v a → S w →
   wpHeadF P md ops Q S n L f (listed.setIfInBounds i true) (a.put oi.dst v) w → wpHeadF P md ops Q S n L (f + 1) listed a w := by
 intro f
 induction f with
 | zero =>
  intro listed a w inv _ hr hy hS H
  have hun := (mem_ready.1 hr).1
  refine ⟨fun h => (by rw [h] at hr; cases hr), fun j hj => ?_⟩
  have hjn : j < n := by
   rcases Nat.lt_or_ge j n with h | h
   ·exact h
   ·exact absurd hj (tail_waits hs hc hn inv _ i rfl hin hun j h)
  refine ⟨hjn, ?_⟩
  by_cases hji : j = i
  ·subst hji; exact hy.wpOp hi hS ⟨hS, H⟩
  ·have := hdone _ _ _ H j (ready_mono hj hji)
   omega
 | succ f ih =>
  intro listed a w inv hfree hr hy hS H
  have hun := (mem_ready.1 hr).1
  refine ⟨fun h => (by rw [h] at hr; cases hr), fun j hj => ?_⟩
  have hjn : j < n := by
   rcases Nat.lt_or_ge j n with h | h
   ·exact h
   ·exact absurd hj (tail_waits hs hc hn inv _ i rfl hin hun j h)
  refine ⟨hjn, ?_⟩
  by_cases hji : j = i
  ·subst hji; exact hy.wpOp hi hS ⟨hS, H⟩
  ·have h1 := (H.2 j (ready_mono hj hji)).2
   obtain ⟨hjun, oj, hoj, hall⟩ := mem_ready.1 hj
   have hnot : ∀ e ∈ oj.after, Region.binds md e = true → e.on ≠ i := fun e he hb heq => by
    have h1 := hall e he hb
    rw [heq, getD_both hun] at h1
    cases h1
   have h2 := wpOp_putIf hoj (hfree j oj hoj hji hjun hnot) (fun cs b => hsel i oi cs b hi) (fun cs b => hsel j oj cs b hoj) hQ hy h1
   have hfree' : ∀ k ok, ops[k]? = some ok → k ≠ i → (listed.setIfInBounds j true).getD k true = false →
     (∀ e ∈ ok.after, Region.binds md e = true → e.on ≠ i) → oi.apart ops ok = true := fun k ok hk hki hun hno => by
    refine hfree k ok hk hki ?_ hno
    by_cases hjk : j = k
    ·subst hjk; exact hjun
    ·rw [getD_set_ne true hjk] at hun; exact hun
   refine wpOp_mono (fun a' w' h3 => ⟨h3.2.1, ih (listed.setIfInBounds j true) a' w' (inv.set hj hjn) hfree' (ready_mono hr (Ne.symm hji)) h3.1 h3.2.1 ?_⟩) h2
   rw [Array.setIfInBounds_comm _ _ hji]
   exact h3.2.2
def takeB (md : Region.Mode) (ops : Array Oper) (n : Nat) : List Nat → Array Bool → Bool
 | [], _ => true
 | k :: ks, listed => decide (k < n) && (match ops[k]? with | some o => plainOp o | none => false) && (Region.ready md ops listed).contains k && Region.free md ops listed k && takeB md ops n ks (listed.setIfInBounds k true)
def listAll : List Nat → Array Bool → Array Bool
 | [], listed => listed
 | k :: ks, listed => listAll ks (listed.setIfInBounds k true)
theorem yieldsIf_of_quiet {o : Oper} {a : Act} {K : Act → Prop} {i : Nat} (hi : ops[i]? = some o) (hp : plainOp o = true) (h : qOp P ops S i K a) : ∃ v, YieldsIf P ops S o v a ∧ K (a.put o.dst v) := by
 obtain ⟨v, hy, hk⟩ := yieldsIn_of_qOp hi h
 refine ⟨v, ?_, hk⟩
 rcases hy with ⟨hw, hv⟩ | ⟨hw, hv⟩
 ·refine .inl ⟨hw, fun w hS => ?_⟩
  have h3 := hv w hS
  have hpv := plain_values (P := P) hp a.eval w
  unfold Oper.quietAt at h3
  generalize (execOp a.eval o).run P w = r at *
  cases r with
  | ok x w' =>
   obtain ⟨u, rfl⟩ := hpv x w' rfl
   simp only [Oper.quietUpon] at h3
   rw [h3.1, h3.2]
  | halt x w' => simp only [Oper.quietUpon] at h3
 ·exact .inr ⟨hw, hv⟩
theorem wpHeadF_takes {n : Nat} {L : Array Bool → Act → World → Prop} {w : World} (hsel : Region.noSelect ops = true)
  (hs : Region.sinkB md ops n = true) (hc : Region.chainB md ops n = true) (hn : n < ops.size) (hQ : ∀ c a w, Q (.panic c) a w → False)
  (hdone : ∀ listed a w, L listed a w → ∀ j ∈ Region.ready md ops listed, n ≤ j) (hS : S w) (f : Nat) :
  ∀ (ks : List Nat) (listed : Array Bool) (a : Act), HeadInv md ops n listed → takeB md ops n ks listed = true →
   wpQuiet P ops S (fun a' => wpHeadF P md ops Q S n L f (listAll ks listed) a' w) (ks.filterMap fun k => ops[k]?) a → wpHeadF P md ops Q S n L (f + ks.length) listed a w
 | [], listed, a, _, _, h => h
 | k :: ks, listed, a, inv, hB, h => by
  simp only [takeB, Bool.and_eq_true, decide_eq_true_eq] at hB
  obtain ⟨⟨⟨⟨hkn, hp⟩, hr⟩, hf⟩, hB'⟩ := hB
  cases ho : ops[k]? with
  | none => rw [ho] at hp; cases hp
  | some o =>
   rw [ho] at hp
   rw [List.filterMap_cons_some ho] at h
   have hr' : k ∈ Region.ready md ops listed := by simpa using hr
   have hq : qOp P ops S k (wpQuiet P ops S (fun a' => wpHeadF P md ops Q S n L f (listAll ks (listed.setIfInBounds k true)) a' w) (ks.filterMap fun k => ops[k]?)) a := by unfold qOp; simp only [ho]; exact h
   obtain ⟨v, hy, hK⟩ := yieldsIf_of_quiet ho hp hq
   exact wpHeadF_first ho (Region.noSelect_spec hsel) hs hc hn hkn (fun c a w h => (hQ _ _ _ h).elim) hdone (f + ks.length) listed a w inv (Region.free_spec ho hf) hr' hy hS
    (wpHeadF_takes hsel hs hc hn hQ hdone hS f ks _ _ (inv.set hr' hkn) hB' hK)
theorem wp_region_first {P : Program} {id : Nat} {Q : Exit → Act → World → Prop} {a : Act} {w : World} {l : List Oper} (S : World → Prop) (n f : Nat) (ks : List Nat) (hm : P.follows .mixedOrders = true)
  (hB : (Region.noSelect l.toArray && decide (n < l.toArray.size) && Region.sinkB .any l.toArray n && Region.chainB .any l.toArray n && takeB .any l.toArray n ks (Array.replicate l.toArray.size false) && decide (f + ks.length = n)) = true)
  (hS : S w.drew)
  (h : wpQuiet P l.toArray S (fun a' => wpHeadF P .any l.toArray (NoPanic Q) S n (fun listed a' w' => Region.seqB .any l.toArray (l.toArray.size - n) n listed = true ∧ wpList P l.toArray (NoPanic Q) (l.drop n) a' w') f (listAll ks (Array.replicate l.toArray.size false)) a' w.drew) (ks.filterMap fun k => l.toArray[k]?) a) :
  (Code.region id l.toArray true).wp P Q a w := by
 simp only [Bool.and_eq_true, decide_eq_true_eq] at hB
 obtain ⟨⟨⟨⟨⟨hsel, hn⟩, hs⟩, hc⟩, ht⟩, hf⟩ := hB
 refine wp_region_noPanic (wp_region_any hm ?_)
 have hdl : (l.drop n).length = l.toArray.size - n := by simp
 have inv0 : HeadInv .any l.toArray n (Array.replicate l.toArray.size false) :=
  ⟨by simp, fun j oj _ hl => (by rw [getD_replicate_false] at hl; cases hl), fun t _ ht => getD_in (by simpa using ht) (getD_replicate_false _ _)⟩
 have H := wpHeadF_takes (Q := NoPanic Q) hsel hs hc hn (fun _ _ _ h => h) (fun listed a w hL => seqB_ready hL.1) hS f ks _ a inv0 ht h
 have := wpAny_of_headF (Q := NoPanic Q) (g := l.toArray.size - n) (fun listed a' w' hL => by
  have := wpAny_of_seq (md := .any) (Q' := NoPanic Q) (l.drop n) n listed a' w' (fun j => by simp [List.getElem?_drop]) (by rw [hdl]; exact hL.1) hL.2
  rwa [hdl] at this) _ _ _ _ H
 rw [hf, show n + (l.toArray.size - n) = l.toArray.size by omega] at this
 exact this
theorem wpHeadF_mono {S' : World → Prop} (hS : ∀ w, S' w → S w) {n : Nat} {L : Array Bool → Act → World → Prop} : ∀ (f : Nat) (listed : Array Bool) (a : Act) (w : World), wpHeadF P md ops Q S' n L f listed a w → wpHeadF P md ops Q S n L f listed a w
 | 0, _, _, _, h => h
 | f + 1, _, _, _, h => ⟨h.1, fun i hi => ⟨(h.2 i hi).1, wpOp_mono (fun a' w' h' => ⟨hS _ h'.1, wpHeadF_mono hS f _ a' w' h'.2⟩) (h.2 i hi).2⟩⟩
def headInvB (md : Region.Mode) (ops : Array Oper) (n : Nat) (listed : Array Bool) : Bool :=
 Nat.beq listed.size ops.size && ((List.range ops.size).all fun j => !(listed.getD j false) || (match ops[j]? with | some o => o.after.toList.all fun e => !(Region.binds md e) || listed.getD e.on false | none => true)) &&
  ((List.range ops.size).all fun t => Nat.blt t n || !(listed.getD t true))
theorem headInv_of {n : Nat} {listed : Array Bool} (h : headInvB md ops n listed = true) : HeadInv md ops n listed := by
 simp only [headInvB, Bool.and_eq_true, List.all_eq_true, List.mem_range, Bool.or_eq_true, Bool.not_eq_true'] at h
 obtain ⟨⟨h1, h2⟩, h3⟩ := h
 refine ⟨Nat.eq_of_beq_eq_true h1, fun j oj hj hl e he hb => ?_, fun t ht htl => ?_⟩
 ·have hjl : j < ops.size := (Array.getElem?_eq_some_iff.1 hj).1
  rcases h2 j hjl with h | h
  ·rw [hl] at h; cases h
  ·rw [hj] at h
   simp only [List.all_eq_true, Bool.or_eq_true, Bool.not_eq_true'] at h
   rcases h e (by simpa using he) with h | h
   ·rw [hb] at h; cases h
   ·exact h
 ·rcases h3 t htl with h | h
  ·have : t < n := by simpa using h
   omega
  ·exact h
theorem headF_takes {n f m : Nat} {l : List Oper} {Q : Exit → Act → World → Prop} {a : Act} {w : World} {listed : Array Bool} (S' : World → Prop) (ks : List Nat) (hSS : ∀ w, S' w → S w)
  (hB : (Region.noSelect l.toArray && decide (n < l.toArray.size) && Region.sinkB .any l.toArray n && Region.chainB .any l.toArray n && headInvB .any l.toArray n listed && takeB .any l.toArray n ks listed && decide (f + ks.length = m)) = true) (hS : S' w)
  (h : wpQuiet P l.toArray S' (fun a' => wpHeadF P .any l.toArray (NoPanic Q) S' n (fun listed a' w' => Region.seqB .any l.toArray (l.toArray.size - n) n listed = true ∧ wpList P l.toArray (NoPanic Q) (l.drop n) a' w') f (listAll ks listed) a' w) (ks.filterMap fun k => l.toArray[k]?) a) :
  wpHeadF P .any l.toArray (NoPanic Q) S n (fun listed a' w' => Region.seqB .any l.toArray (l.toArray.size - n) n listed = true ∧ wpList P l.toArray (NoPanic Q) (l.drop n) a' w') m listed a w := by
 simp only [Bool.and_eq_true, decide_eq_true_eq] at hB
 obtain ⟨⟨⟨⟨⟨⟨hsel, hn⟩, hs⟩, hc⟩, hi⟩, ht⟩, hf⟩ := hB
 refine wpHeadF_mono hSS m listed a w ?_
 rw [← hf]
 exact wpHeadF_takes (Q := NoPanic Q) hsel hs hc hn (fun _ _ _ h => h) (fun listed a w hL => seqB_ready hL.1) hS f ks _ a (headInv_of hi) ht h
theorem headF_one {n f i : Nat} {L : Array Bool → Act → World → Prop} {listed : Array Bool} {a : Act} {w : World} (hr : Region.ready md ops listed = [i]) (hi : i < n)
  (h : wpOp P ops Q i (fun a' w' => S w' ∧ wpHeadF P md ops Q S n L f (listed.setIfInBounds i true) a' w') a w) : wpHeadF P md ops Q S n L (f + 1) listed a w := by
 refine ⟨by rw [hr]; simp, fun j hj => ?_⟩
 rw [hr] at hj
 obtain rfl : j = i := by simpa using hj
 exact ⟨hi, h⟩
theorem headF_two {n f i k : Nat} {L : Array Bool → Act → World → Prop} {listed : Array Bool} {a : Act} {w : World} (hr : Region.ready md ops listed = [i, k]) (hi : i < n) (hk : k < n)
  (h1 : wpOp P ops Q i (fun a' w' => S w' ∧ wpHeadF P md ops Q S n L f (listed.setIfInBounds i true) a' w') a w)
  (h2 : wpOp P ops Q k (fun a' w' => S w' ∧ wpHeadF P md ops Q S n L f (listed.setIfInBounds k true) a' w') a w) : wpHeadF P md ops Q S n L (f + 1) listed a w := by
 refine ⟨by rw [hr]; simp, fun j hj => ?_⟩
 rw [hr] at hj
 rcases (by simpa using hj : j = i ∨ j = k) with rfl | rfl
 ·exact ⟨hi, h1⟩
 ·exact ⟨hk, h2⟩
theorem wpOp_at {i : Nat} {o : Oper} {K : Act → World → Prop} {a : Act} {w : World} (ho : ops[i]? = some o) (hg : o.guard = none) (h : o.wp P a w K Q) : wpOp P ops Q i K a w := by
 unfold wpOp
 rw [ho]
 simp only [Region.wanted, hg, if_true]
 exact .inl h
theorem wpOp_atG {i : Nat} {o : Oper} {K : Act → World → Prop} {a : Act} {w : World} (ho : ops[i]? = some o) (hg : Region.wanted o (yielded ops a.tmps) = true) (h : o.wp P a w K Q) : wpOp P ops Q i K a w := by
 unfold wpOp
 rw [ho]
 simp only [hg, if_true]
 exact .inl h
theorem q_cell {Qa : Act → Prop} {a : Act} {o : Oper} {rest : List Oper} (ty : TypeId) (x : Operand) (p : Addr) (v : Value) (hw : Region.wanted o (yielded ops a.tmps) = true) (ho : o.op = .load ty x) (hx : a.eval x = .pointer (some p))
  (hl : ∀ w, w.cell? p = some v → (Instr.loadAt ty (.pointer (some p))).run P w = .ok v w) (hS : ∀ w, S w → w.cell? p = some v) (h : wpQuiet P ops S Qa rest (a.put o.dst v)) : wpQuiet P ops S Qa (o :: rest) a := by
 refine q_valC v hw (fun w hc => ?_) h
 unfold execOp
 simp only [ho, hx, Sem.run_bind, Sem.run_pure, Result.andThen_ok, hl w (hS w hc)]
end
section
variable {P : Program}
theorem run_buildSlice_zero (w : World) (T e : TypeId) (i : TypeInfo) (ht : P.underlying T = some (.slice e)) (hi : P.info? e = some i) :
  (Instr.buildSlice T 0 #[]).run P w = .ok (.slice (some ⟨w.heap.size, 0, none⟩) 0 0) (w.alloc (.cells #[] e)) := by
 simp [Instr.buildSlice, run_underlying ht, sizeOf, typeInfo, hi, Instr.fill, newRow, go_sem]
theorem wp_buildSlice_zero {o : Oper} {a : Act} {w : World} {K : Act → World → Prop} {Q : Exit → Act → World → Prop} (T e : TypeId) (i : TypeInfo) (ho : o.op = .buildSlice T 0 #[]) (ht : P.underlying T = some (.slice e)) (hi : P.info? e = some i)
  (h : K (a.put o.dst (.slice (some ⟨w.heap.size, 0, none⟩) 0 0)) (w.alloc (.cells #[] e))) : o.wp P a w K Q := by
 unfold Oper.wp execOp
 simp only [ho, List.map_toArray, List.map_nil, Sem.run_bind, run_buildSlice_zero w T e i ht hi, Result.andThen_ok, Sem.run_pure]
 exact h
theorem run_buildSlice_one (w : World) (T e : TypeId) (i : TypeInfo) (z v : Value) (ht : P.underlying T = some (.slice e)) (hi : P.info? e = some i) (hz : i.zero = some z) (hs : i.size = 1) (hz1 : z.cells.size = 1) (h1 : v.cells = #[v]) :
  (Instr.buildSlice T 1 #[(0, v)]).run P w = .ok (.slice (some ⟨w.heap.size, 0, none⟩) 1 1) (w.alloc (.cells #[v] e)) := by
 simp [Instr.buildSlice, run_underlying ht, sizeOf, typeInfo, hi, hs, zeroValue, hz, Instr.fill, newRow, h1, hz1]
 simp [go_sem]
theorem wp_buildSlice_one {o : Oper} {a : Act} {w : World} {K : Act → World → Prop} {Q : Exit → Act → World → Prop} (T e : TypeId) (i : TypeInfo) (x : Operand) (z v : Value) (ho : o.op = .buildSlice T 1 #[(0, x)]) (hx : a.eval x = v) (ht : P.underlying T = some (.slice e)) (hi : P.info? e = some i) (hz : i.zero = some z) (hs : i.size = 1) (hz1 : z.cells.size = 1) (h1 : v.cells = #[v])
  (h : K (a.put o.dst (.slice (some ⟨w.heap.size, 0, none⟩) 1 1)) (w.alloc (.cells #[v] e))) : o.wp P a w K Q := by
 unfold Oper.wp execOp
 simp only [ho, List.map_toArray, List.map_cons, List.map_nil, hx, Sem.run_bind, run_buildSlice_one w T e i z v ht hi hz hs hz1 h1, Result.andThen_ok, Sem.run_pure]
 exact h
theorem wp_call_at {o : Oper} {a : Act} {w : World} {K : Act → World → Prop} {Q : Exit → Act → World → Prop} {f : FuncId} {xs : Array Operand} {ats : Array TypeId} (ho : o.op = .call { callee := .value (.func f), args := xs, argTypes := ats }) (vs : Array Value)
  (hvs : #[] ++ xs.map a.eval ++ #[] = vs) (hcall : ∀ args w, (callFunc f args).run P w = .ok (.enter f args) w) (hC : Calls P f vs w fun e w' => ∃ v, e = .returned v ∧ K (a.put o.dst v) w') : o.wp P a w K Q := by
 obtain ⟨dst, op, ty, pos, after, guard⟩ := o
 dsimp only at ho hC
 subst ho
 unfold Oper.wp
 have e : execOp a.eval { dst, op := .call { callee := .value (.func f), args := xs, argTypes := ats }, type := ty, pos, after, guard } = callFunc f (#[] ++ xs.map a.eval ++ #[]) := rfl
 rw [e, hcall, hvs]
 exact hC.mono fun e w' ⟨v, he, hk⟩ => by subst he; exact hk
end
end
section
open Go Go.RowKit
theorem cell_alloc_some {w : World} {p : Addr} {v : Value} (o : Obj) (h : w.cell? p = some v) : (w.alloc o).cell? p = some v := by
 have := (Below.refl w.heap.size w).alloc (Nat.le_refl _) o
 exact (this.cell (cell_lt h)).trans h
section
variable {P : Program}
theorem info_of {t : TypeId} {z : Value} {n : Nat} (h : (P.info? t).map (fun i => (i.zero, i.size)) = some (some z, n)) : ∃ i, P.info? t = some i ∧ i.zero = some z ∧ i.size = n := by
 cases hi : P.info? t with
 | none => rw [hi] at h; cases h
 | some i =>
  rw [hi] at h
  simp at h
  exact ⟨i, rfl, h.1, h.2⟩
theorem run_buildSlice_two (w : World) (T e : TypeId) (i : TypeInfo) (z q v u : Value) (ht : P.underlying T = some (.slice e)) (hi : P.info? e = some i) (hz : i.zero = some z) (hs : i.size = 1) (hz1 : z.cells = #[q]) (h1 : v.cells = #[v]) (h2 : u.cells = #[u]) :
  (Instr.buildSlice T 2 #[(0, v), (1, u)]).run P w = .ok (.slice (some ⟨w.heap.size, 0, none⟩) 2 2) (w.alloc (.cells #[v, u] e)) := by
 simp [Instr.buildSlice, run_underlying ht, sizeOf, typeInfo, hi, hs, zeroValue, hz, Instr.fill, newRow, h1, h2, hz1]
 simp [go_sem]
theorem wp_buildSlice_two {o : Oper} {a : Act} {w : World} {K : Act → World → Prop} {Q : Exit → Act → World → Prop} (T e : TypeId) (x y : Operand) (z q v u : Value) (ho : o.op = .buildSlice T 2 #[(0, x), (1, y)]) (hx : a.eval x = v) (hy : a.eval y = u) (ht : P.underlying T = some (.slice e)) (hI : (P.info? e).map (fun i => (i.zero, i.size)) = some (some z, 1)) (hz1 : z.cells = #[q]) (h1 : v.cells = #[v]) (h2 : u.cells = #[u])
  (h : K (a.put o.dst (.slice (some ⟨w.heap.size, 0, none⟩) 2 2)) (w.alloc (.cells #[v, u] e))) : o.wp P a w K Q := by
 obtain ⟨i, hi, hz, hs⟩ := info_of hI
 unfold Oper.wp execOp
 simp only [ho, List.map_toArray, List.map_cons, List.map_nil, hx, hy, Sem.run_bind, run_buildSlice_two w T e i z q v u ht hi hz hs hz1 h1 h2, Result.andThen_ok, Sem.run_pure]
 exact h
theorem run_buildSlice_pair (w : World) (T e : TypeId) (i : TypeInfo) (z v u : Value) (ht : P.underlying T = some (.slice e)) (hi : P.info? e = some i) (hz : i.zero = some z) (hs : i.size = 2) :
  (Instr.buildSlice T 1 #[(0, .agg #[v, u])]).run P w = .ok (.slice (some ⟨w.heap.size, 0, none⟩) 1 1) (w.alloc (.cells #[v, u] e)) := by
 simp [Instr.buildSlice, run_underlying ht, sizeOf, typeInfo, hi, hs, zeroValue, hz, Instr.fill, newRow, Value.cells]
 simp [go_sem]
theorem wp_buildSlice_pair {o : Oper} {a : Act} {w : World} {K : Act → World → Prop} {Q : Exit → Act → World → Prop} (T e : TypeId) (x : Operand) (z v u : Value) (ho : o.op = .buildSlice T 1 #[(0, x)]) (hx : a.eval x = .agg #[v, u]) (ht : P.underlying T = some (.slice e)) (hI : (P.info? e).map (fun i => (i.zero, i.size)) = some (some z, 2))
  (h : K (a.put o.dst (.slice (some ⟨w.heap.size, 0, none⟩) 1 1)) (w.alloc (.cells #[v, u] e))) : o.wp P a w K Q := by
 obtain ⟨i, hi, hz, hs⟩ := info_of hI
 unfold Oper.wp execOp
 simp only [ho, List.map_toArray, List.map_cons, List.map_nil, hx, Sem.run_bind, run_buildSlice_pair w T e i z v u ht hi hz hs, Result.andThen_ok, Sem.run_pure]
 exact h
end
end
section
open Go Go.ChangeShapes Go.WideShapes Go.RowKit Go.Deep
section
variable {H : Type} {enc : TypeId × Value → H} {P : Program} {w : World} {base : Nat} {spare : Nat → Bool} {held : Bool}
theorem open_struct_ints {r : Reach} {b0 : Nat} {t : TypeId} {fs : Array Field} {v : Value} {d : DataW H} {p : List MemPlace} (hs : P.underlying t = some (.struct fs)) (hone : oneCellFields P fs = true) (hC : P.cellsOf t = fs.size)
  (hv : Value.okWide P w r b0 t v) (h : DataW.Trod enc P w base spare held t v d p) :
  ∃ cs : Array Value, v = .agg cs ∧ cs.size = fs.size ∧ ∀ (j : Nat) (f : Field) (k : IntKind), fs[j]? = some f → P.underlying f.type = some (.int k) → ∃ n, cs[j]? = some (.int k n) ∧ (Lit.int k n).wf = true := by
 obtain ⟨cs, rfl, hsz⟩ := okWide_struct hs hv
 refine ⟨cs, rfl, hsz.trans hC, fun j f k hj hk => ?_⟩
 obtain ⟨fuel, hf⟩ := h
 obtain ⟨xs, n, _, hx, _, hlen, hg⟩ := DataW.trod_struct hs hf
 obtain ⟨o, kk⟩ := hone_of hone j f hj
 have hjl : j < fs.size := (Array.getElem?_eq_some_iff.1 hj).1
 have hjc : j < cs.size := by omega
 have h1 := hg j f hj
 have hxj : xs[j]? = some (xs[j]'(by omega)) := List.getElem?_eq_getElem (by omega)
 rw [o, kk, hxj] at h1
 have hone' : ((Value.agg cs).cells.toList.drop j).take 1 = [cs[j]'hjc] := by
  have hl : j < cs.toList.length := by simpa using hjc
  show (cs.toList.drop j).take 1 = _
  rw [List.drop_eq_getElem_cons hl]
  simp
 rw [hone'] at h1
 obtain ⟨m, hm, _, hw⟩ := DataW.trod_int hk h1
 exact ⟨m, by rw [Array.getElem?_eq_getElem hjc]; simpa using hm, hw⟩
end
theorem results_cell_row2 {P : Program} {fn : Func} {p u : Tmp} {ty : TypeId} (h : fn.results = #[.cell p ty, .tmp u]) (tmps : Array Value) (w : World) (g : Nat) (t : TypeId) (cs : Array Value) (fr : Nat × Nat) (d : TypeDesc)
  (hp : tmps.getD p undef = .pointer (some ⟨g, 0, none⟩)) (hg : w.heap[g]? = some (.cells cs t fr))
  (hu : P.underlying ty = some d) (hd : (match d with | .struct _ | .array _ _ => true | _ => false) = true) (hi : (P.info? ty).map (·.size) = some cs.size) :
  (results fn tmps).run P w = .ok (.tuple #[.agg cs, tmps.getD u undef]) w := by
 rw [results_cell_tmp h, hp]
 simp [asAddr, run_loadVar_row w g t ty cs fr d hg hu hd hi, Result.andThen]
theorem below_drewN {B : Nat} {a w : World} (h : Below B a w) (n : Nat) : Below B a (w.drewN n) := ⟨h.os, h.tape, h.output, h.size, h.block⟩
theorem below_more {B : Nat} {w w1 w2 : World} (h : Below B w w1) (h2 : Below w1.heap.size w1 w2) (hB : B ≤ w1.heap.size) : Below B w w2 := h.trans (h2.mono hB)
end
section
set_option maxRecDepth 100000
open Go.RowKit
def LedAt (w : World) (b : Nat) (D P B C : Int) : Prop := Blk w b 142 #[.int .u64 D, .int .u64 P, .int .u64 B, .int .u64 C]
def Fits_06 (D P B C : Int) : Prop := 0 ≤ P ∧ 0 ≤ B ∧ P + B ≤ D ∧ D ≤ 18446744073709551615 ∧ D - P - B ≤ C ∧ C ≤ 18446744073709551615
section
variable {w w' : World} {b d : Nat} {D P B C : Int}
theorem LedAt.cells (h : LedAt w b D P B C) : w.cell? ⟨b, 0, none⟩ = some (.int .u64 D) ∧ w.cell? ⟨b, 1, none⟩ = some (.int .u64 P) ∧ w.cell? ⟨b, 2, none⟩ = some (.int .u64 B) ∧ w.cell? ⟨b, 3, none⟩ = some (.int .u64 C) :=
 ⟨Blk.cell h 0, Blk.cell h 1, Blk.cell h 2, Blk.cell h 3⟩
end
theorem balance_any (b : Nat) (D P B : Int) (w : World) (h0 : w.cell? ⟨b, 0, none⟩ = some (.int .u64 D)) (h1 : w.cell? ⟨b, 1, none⟩ = some (.int .u64 P)) (h2 : w.cell? ⟨b, 2, none⟩ = some (.int .u64 B))
  (hP : 0 ≤ P) (hB : 0 ≤ B) (hD : P + B ≤ D) (hm : D ≤ 18446744073709551615) :
  CallD 212 #[.pointer (some ⟨b, 0, none⟩)] w (.int .u64 (D - P - B)) := by
 go_enter Tryz.func212, Tryz.ntmps212
 go_wp2
 go_quiet (skip)
 go_wp2
 go_ret
 exact ⟨rfl, _, rfl⟩
theorem total_0 (b : Nat) (w : World) : CallW 250 #[.pointer (some ⟨b, 0, none⟩), .int .i64 0] w (.pointer (some ⟨b, 0, none⟩)) := by
 go_enter Tryz.func250, Tryz.ntmps250
 go_wp2
 go_ret
 exact ⟨rfl, rfl⟩
theorem total_1 (b : Nat) (w : World) : CallW 250 #[.pointer (some ⟨b, 0, none⟩), .int .i64 1] w (.pointer (some ⟨b, 1, none⟩)) := by
 go_enter Tryz.func250, Tryz.ntmps250
 go_wp2
 go_ret
 exact ⟨rfl, rfl⟩
theorem total_2 (b : Nat) (w : World) : CallW 250 #[.pointer (some ⟨b, 0, none⟩), .int .i64 2] w (.pointer (some ⟨b, 2, none⟩)) := by
 go_enter Tryz.func250, Tryz.ntmps250
 go_wp2
 go_ret
 exact ⟨rfl, rfl⟩
theorem new_any (C : Int) (w : World) :
  Calls Tryz.prog 76 #[.int .u64 C] w fun e w' => e = .returned (.pointer (some ⟨w.heap.size, 0, none⟩)) ∧ w.alloc (.cells #[.int .u64 0, .int .u64 0, .int .u64 0, .int .u64 C] 142) = w' := by
 go_enter Tryz.func76, Tryz.ntmps76
 go_wp2
 go_ret
 exact ⟨rfl, rfl⟩
theorem new_at (C : Int) (w : World) (c0 : 0 ≤ C) (c1 : C ≤ 18446744073709551615) :
  Calls Tryz.prog 76 #[.int .u64 C] w fun e w' => e = .returned (.pointer (some ⟨w.heap.size, 0, none⟩)) ∧ LedAt w' w.heap.size 0 0 0 C ∧ Fits_06 0 0 0 C ∧ Below w.heap.size w w' ∧ w'.heap.size = w.heap.size + 1 :=
 (new_any C w).mono fun e w' ⟨he, hw⟩ => ⟨he, hw ▸ Blk.new _ _ _, ⟨by omega, by omega, by omega, by omega, by omega, c1⟩, hw ▸ (Below.refl _ _).alloc (Nat.le_refl _) _, by rw [← hw]; simp⟩
theorem infoT : (Tryz.prog.info? 109).map (·.size) = some 3 := by kernel_rfl
theorem infoA : (Tryz.prog.info? 140).map (·.size) = some 3 := by kernel_rfl
theorem totals_any (b : Nat) (D P B C : Int) (w : World) (h : LedAt w b D P B C) :
  CallB 40 #[.pointer (some ⟨b, 0, none⟩)] w (.agg #[.int .u64 D, .int .u64 P, .int .u64 B]) := by
 have hr : (w.alloc (.cells #[.int .u64 0, .int .u64 0, .int .u64 0] 109)).rangeAt b 0 [.int .u64 D, .int .u64 P, .int .u64 B] := by
  have hb := Blk.alloc h (.cells #[.int .u64 0, .int .u64 0, .int .u64 0] 109)
  intro j v hv
  have hj : j < 3 := (List.getElem?_eq_some_iff.1 hv).1
  rw [Nat.zero_add, Blk.cell hb j]
  obtain rfl | rfl | rfl : j = 0 ∨ j = 1 ∨ j = 2 := by omega
  all_goals exact hv
 have HR := Lib.hid hr
 clear h hr
 go_enter Tryz.func40, Tryz.ntmps40
 go_wp2_with (first | (refine wpList_load_mid rfl 140 _ rfl b 0 rfl _ _ HR.out Tryz.underlying140 rfl infoA ?_) | (refine wsr w.heap.size #[.int .u64 D, .int .u64 P, .int .u64 B] 109 (heap_alloc_new w _) infoT rfl ?_; rw [World.setRow_alloc_new]))
 exact bodyPost_ret (v := .agg #[.int .u64 D, .int .u64 P, .int .u64 B]) (results_cell_row (fn := Tryz.f40) rfl _ _ w.heap.size 109 _ (0, 0) _ rfl (heap_alloc_new w _) Tryz.underlying109 rfl infoT) rfl ⟨rfl, (Below.refl _ _).alloc (Nat.le_refl _) _⟩
end
section
open Go Go.RowKit
section
variable {P : Program} {ops : Array Oper} {Q : Exit → Act → World → Prop} {md : Region.Mode} {S : World → Prop}
theorem hfO {n f i : Nat} {L : Array Bool → Act → World → Prop} {listed : Array Bool} {a : Act} {w : World}
  (h : wpOp P ops Q i (fun a' w' => S w' ∧ wpHeadF P md ops Q S n L f (listed.setIfInBounds i true) a' w') a w) (hr : Region.ready md ops listed = [i] := by kernel_rfl) (hi : i < n := by first | omega | simp) : wpHeadF P md ops Q S n L (f + 1) listed a w := headF_one hr hi h
theorem wrF {P : Program} {id : Nat} {Q : Exit → Act → World → Prop} {a : Act} {w : World} {l : List Oper} (S : World → Prop) (n f : Nat) (ks : List Nat) (hS : S w.drew)
  (h : wpQuiet P l.toArray S (fun a' => wpHeadF P .any l.toArray (NoPanic Q) S n (fun listed a' w' => Region.seqB .any l.toArray (l.toArray.size - n) n listed = true ∧ wpList P l.toArray (NoPanic Q) (l.drop n) a' w') f (listAll ks (Array.replicate l.toArray.size false)) a' w.drew) (ks.filterMap fun k => l.toArray[k]?) a)
  (hm : P.follows .mixedOrders = true := by kernel_rfl)
  (hB : (Region.noSelect l.toArray && decide (n < l.toArray.size) && Region.sinkB .any l.toArray n && Region.chainB .any l.toArray n && takeB .any l.toArray n ks (Array.replicate l.toArray.size false) && decide (f + ks.length = n)) = true := by kernel_rfl) :
  (Code.region id l.toArray true).wp P Q a w := wp_region_first S n f ks hm hB hS h
theorem hfT {n f m : Nat} {l : List Oper} {Q : Exit → Act → World → Prop} {a : Act} {w : World} {listed : Array Bool} (S' : World → Prop) (ks : List Nat) (hS : S' w)
  (h : wpQuiet P l.toArray S' (fun a' => wpHeadF P .any l.toArray (NoPanic Q) S' n (fun listed a' w' => Region.seqB .any l.toArray (l.toArray.size - n) n listed = true ∧ wpList P l.toArray (NoPanic Q) (l.drop n) a' w') f (listAll ks listed) a' w) (ks.filterMap fun k => l.toArray[k]?) a)
  (hSS : ∀ w, S' w → S w := by exact fun _ h => h)
  (hB : (Region.noSelect l.toArray && decide (n < l.toArray.size) && Region.sinkB .any l.toArray n && Region.chainB .any l.toArray n && headInvB .any l.toArray n listed && takeB .any l.toArray n ks listed && decide (f + ks.length = m)) = true := by kernel_rfl) :
  wpHeadF P .any l.toArray (NoPanic Q) S n (fun listed a' w' => Region.seqB .any l.toArray (l.toArray.size - n) n listed = true ∧ wpList P l.toArray (NoPanic Q) (l.drop n) a' w') m listed a w := headF_takes S' ks hSS hB hS h
theorem wcA {i : Nat} {o : Oper} {a : Act} {w : World} {K : Act → World → Prop} {f : FuncId} {xs : Array Operand} {ats : Array TypeId} (vs : Array Value)
  (hcall : ∀ args w, (callFunc f args).run P w = .ok (.enter f args) w) (hC : Calls P f vs w fun e w' => ∃ v, e = .returned v ∧ K (a.put o.dst v) w') (hi : ops[i]? = some o := by rfl) (hg : o.guard = none := by rfl)
  (ho : o.op = .call { callee := .value (.func f), args := xs, argTypes := ats } := by rfl) (hvs : #[] ++ xs.map a.eval ++ #[] = vs := by kernel_rfl) : wpOp P ops Q i K a w := wpOp_at hi hg (wp_call_at ho vs hvs hcall hC)
end
end
section
open Go Go.RowKit
section
variable {P : Program} {ops : Array Oper} {S : World → Prop}
theorem qce {Qa : Act → Prop} {a : Act} {o : Oper} {rest : List Oper} (ty : TypeId) (p : Addr) (v : Value) {x : Operand} (hS : ∀ w, S w → w.cell? p = some v) (h : wpQuiet P ops S Qa rest (a.put o.dst v))
  (hw : Region.wanted o (yielded ops a.tmps) = true := by exact rfl) (ho : o.op = .load ty x := by exact rfl) (hx : a.eval x = .pointer (some p) := by exact rfl)
  (hl : ∀ w, w.cell? p = some v → (Instr.loadAt ty (.pointer (some p))).run P w = .ok v w := by exact fun w h => by simp [go_sem, h]) : wpQuiet P ops S Qa (o :: rest) a := q_cell ty x p v hw ho hx hl hS h
end
end
section
set_option maxRecDepth 100000
open Go.RowKit
theorem getD_two (y x : Int) (i : Nat) (hy0 : 0 ≤ y) (hy1 : y ≤ 18446744073709551615) (hx0 : 0 ≤ x) (hx1 : x ≤ 18446744073709551615) : 0 ≤ [y, x].getD i 0 ∧ [y, x].getD i 0 ≤ 18446744073709551615 := by
 match i with
 | 0 => exact ⟨hy0, hy1⟩
 | 1 => exact ⟨hx0, hx1⟩
 | i + 2 => simp
theorem add2_any (g : Nat) (y x : Int) (w : World) (h : Blk w g 23 #[.int .u64 y, .int .u64 x]) (hy0 : 0 ≤ y) (hy1 : y ≤ 18446744073709551615) (hx0 : 0 ≤ x) (hx1 : x ≤ 18446744073709551615) :
  CallW 101 #[.slice (some ⟨g, 0, none⟩) 2 2] w (.tuple #[.int .u64 (addQ [y, x] 2), .bool (addOk [y, x] 2)]) :=
 add_row g 0 2 2 [y, x] w (by omega) (fun i hi => by
  rw [Nat.zero_add, Blk.cell h i]
  obtain rfl | rfl : i = 0 ∨ i = 1 := by omega
  all_goals rfl) (fun i => getD_two y x i hy0 hy1 hx0 hx1)
theorem two_yes {y x : Int} (h : y + x ≤ 18446744073709551615) : addOk [y, x] 2 = true ∧ addQ [y, x] 2 = y + x := by
 have e : sumTo [y, x] 2 = y + x := by simp [sumTo]
 have := add_yes (z := [y, x]) (n := 2) (by rw [e]; exact h)
 rwa [e] at this
theorem two_not {y x : Int} (h : ¬ y + x ≤ 18446744073709551615) : addOk [y, x] 2 = false ∧ addQ [y, x] 2 = 0 := by
 have e : sumTo [y, x] 2 = y + x := by simp [sumTo]
 exact add_not (z := [y, x]) (n := 2) (by rw [e]; exact h)
theorem add2_yes (g : Nat) (y x : Int) (w : World) (h : Blk w g 23 #[.int .u64 y, .int .u64 x]) (hy0 : 0 ≤ y) (hx0 : 0 ≤ x) (hs : y + x ≤ 18446744073709551615) :
  CallW 101 #[.slice (some ⟨g, 0, none⟩) 2 2] w (.tuple #[.int .u64 (y + x), .bool true]) := by
 have := add2_any g y x w h hy0 (by omega) hx0 (by omega)
 rwa [(two_yes hs).1, (two_yes hs).2] at this
theorem add2_not (g : Nat) (y x : Int) (w : World) (h : Blk w g 23 #[.int .u64 y, .int .u64 x]) (hy0 : 0 ≤ y) (hy1 : y ≤ 18446744073709551615) (hx0 : 0 ≤ x) (hx1 : x ≤ 18446744073709551615) (hs : ¬ y + x ≤ 18446744073709551615) :
  CallW 101 #[.slice (some ⟨g, 0, none⟩) 2 2] w (.tuple #[.int .u64 0, .bool false]) := by
 have := add2_any g y x w h hy0 hy1 hx0 hx1
 rwa [(two_not hs).1, (two_not hs).2] at this
theorem infoE : (Tryz.prog.info? 260).map (·.size) = some 2 := by kernel_rfl
theorem u64_info : (Tryz.prog.info? 23).map (fun i => (i.zero, i.size)) = some (some (.int .u64 0), 1) := by kernel_rfl
theorem total_any (s b : Nat) (hs : s < 3) (w : World) : CallW 250 #[.pointer (some ⟨b, 0, none⟩), .int .i64 s] w (.pointer (some ⟨b, s, none⟩)) := by
 obtain rfl | rfl | rfl : s = 0 ∨ s = 1 ∨ s = 2 := by omega
 ·exact total_0 b w
 ·exact total_1 b w
 ·exact total_2 b w
theorem led_range {w : World} {b : Nat} {D P B C : Int} (h : LedAt w b D P B C) : w.rangeAt b 0 [.int .u64 D, .int .u64 P, .int .u64 B] := by
 intro j v hv
 have hj : j < 3 := (List.getElem?_eq_some_iff.1 hv).1
 rw [Nat.zero_add, Blk.cell h j]
 obtain rfl | rfl | rfl : j = 0 ∨ j = 1 ∨ j = 2 := by omega
 all_goals exact hv
theorem led_setCells {w : World} {b : Nat} {D P B C D' P' B' : Int} (h : LedAt w b D P B C) : LedAt (w.setCells b 0 [.int .u64 D', .int .u64 P', .int .u64 B']) b D' P' B' C :=
 Blk.set_ (Blk.set_ (Blk.set_ h 0 (.int .u64 D')) 1 (.int .u64 P')) 2 (.int .u64 B')
theorem only_setCells {a w : World} {b : Nat} (h : a.grownBy w (some b)) (u0 u1 u2 : Value) : a.grownBy (w.setCells b 0 [u0, u1, u2]) (some b) :=
 only_setCell (only_setCell (only_setCell h (.inl rfl) u0) (.inl rfl) u1) (.inl rfl) u2
set_option maxHeartbeats 800000 in
theorem book_yes (s b g : Nat) (D P B C D' P' B' x y : Int) (w : World) (hb : LedAt w b D P B C) (hg : Blk w g 260 #[.int .i64 s, .int .u64 x]) (hs : s < 3)
  (hy : (#[.int .u64 D, .int .u64 P, .int .u64 B] : Array Value)[s]? = some (.int .u64 y)) (hup : (#[.int .u64 D, .int .u64 P, .int .u64 B] : Array Value).setIfInBounds s (.int .u64 (y + x)) = #[.int .u64 D', .int .u64 P', .int .u64 B'])
  (y0 : 0 ≤ y) (x0 : 0 ≤ x) (hsum : y + x ≤ 18446744073709551615) :
  Calls Tryz.prog 213 #[.pointer (some ⟨b, 0, none⟩), .slice (some ⟨g, 0, none⟩) 1 1] w fun e w' => e = .returned (.bool true) ∧ LedAt w' b D' P' B' C ∧ w.grownBy w' (some b) := by
 have HR := Lib.hid (led_range hb)
 have HB := Lib.hid hb
 have HG := Lib.hid hg
 have HY := Lib.hid hy
 have HU := Lib.hid hup
 have HT := Lib.hid (fun b w => total_any s b hs w)
 have HL := Lib.hid (Blk.lt hb)
 have HLg := Lib.hid (Blk.lt hg)
 have HN : Hid (∀ (w : World), Blk (w.alloc (.cells #[.int .u64 D, .int .u64 P, .int .u64 B] 140)) w.heap.size 140 #[.int .u64 D, .int .u64 P, .int .u64 B]) := Lib.hid (fun w => Blk.new w _ _)
 clear hb hg hy hup
 go_enter Tryz.func213, Tryz.ntmps213
 go_wp2_with (first | (refine wpList_load_mid rfl 140 _ rfl b 0 rfl _ _ HR.out Tryz.underlying140 rfl infoA ?_) | (refine wsr w.heap.size #[.int .u64 D, .int .u64 P, .int .u64 B] 140 (heap_alloc_new w _) infoA rfl ?_; rw [World.setRow_alloc_new]))
 go_loopw [16] (fun s16 wr => ∃ (k : Nat) (cs : Array Value), s16 = .int .i64 k ∧ Hid (k = 0 ∧ cs = #[.int .u64 D, .int .u64 P, .int .u64 B] ∨ k = 1 ∧ cs = #[.int .u64 D', .int .u64 P', .int .u64 B']) ∧ Hid (Blk wr w.heap.size 140 cs) ∧ Below w.heap.size w wr) (fun s16 _ => 1 - (intOf s16).toNat)
 case atStart => exact ⟨0, _, rfl, Lib.hid (.inl ⟨rfl, rfl⟩), Lib.hid (Blk.new w _ _), (Below.refl _ _).alloc (Nat.le_refl _) _⟩
 case round =>
  obtain ⟨k, cs, rfl, HK, HC, BR⟩ := hrel
  have hk : k = 0 ∨ k = 1 := HK.out.elim (fun h => .inl h.1) (fun h => .inr h.1)
  rcases hk with rfl | rfl
  ·have hcs : cs = #[.int .u64 D, .int .u64 P, .int .u64 B] := HK.out.elim (fun h => h.2) (fun h => by cases h.1)
   subst hcs
   clear HK
   have g0 : wr.cell? ⟨g, 0, none⟩ = some (.int .i64 s) := (BR.cell (p := ⟨g, 0, none⟩) HLg.out).trans (HG.out.cell 0)
   have g1 : wr.cell? ⟨g, 1, none⟩ = some (.int .u64 x) := (BR.cell (p := ⟨g, 1, none⟩) HLg.out).trans (HG.out.cell 1)
   go_wp2_with (first | (refine wsr wr.heap.size #[.int .i64 s, .int .u64 x] 260 (heap_alloc_new wr _) infoE rfl ?_; rw [World.setRow_alloc_new]) | fail)
   refine (HT.out _ _).mono ?_
   rintro e w1 ⟨rfl, hw1⟩
   have B1 : Below w.heap.size w w1 := hw1 ▸ BR.alloc BR.size _
   have C1 : Hid (Blk w1 w.heap.size 140 #[.int .u64 D, .int .u64 P, .int .u64 B]) := Lib.hid (hw1 ▸ Blk.alloc HC.out _)
   have x1 : w1.cell? ⟨wr.heap.size, 1, none⟩ = some (.int .u64 x) := by rw [← hw1]; exact Blk.cell (Blk.new _ _ _) 1
   have y1 : w1.cell? ⟨w.heap.size, s, none⟩ = some (.int .u64 y) := (C1.out.cell s).trans HY.out
   clear hw1 g0 g1 HC BR
   go_wp2
   refine wrF (fun _ => True) 11 11 [] trivial ?_
   refine wpQuiet_nil ?_
   refine headF_takes (fun w' => w'.cell? ⟨wr.heap.size, 1, none⟩ = some (.int .u64 x) ∧ w'.cell? ⟨w.heap.size, s, none⟩ = some (.int .u64 y)) (m := 11) (f := 6) [0, 1, 2, 3, 4] (fun _ _ => trivial) (by kernel_rfl) ⟨x1, y1⟩ ?_
   simp only [List.filterMap_cons, List.filterMap_nil, List.getElem?_toArray, List.getElem?_cons_zero, List.getElem?_cons_succ]
   show wpQuiet _ _ _ _ [_, _, _, _, _] _
   iterate 2 (go_big_quiet_step ((intros; rfl)))
   refine qce 23 _ (.int .u64 y) (fun w h => h.2) ?_
   simp only [Act.put, List.setIfInBounds_toArray, List.set_cons_zero, List.set_cons_succ]
   iterate 1 (go_big_quiet_step ((intros; rfl)))
   refine qce 23 _ (.int .u64 x) (fun w h => h.1) ?_
   simp only [Act.put, List.setIfInBounds_toArray, List.set_cons_zero, List.set_cons_succ]
   refine wpQuiet_nil ?_
   refine hfO (i := 5) ?_
   refine wpOp_at rfl rfl (wp_buildSlice_two 121 23 (.tmp 26) (.tmp 28) _ _ (.int .u64 y) (.int .u64 x) rfl rfl rfl Tryz.underlying121 u64_info rfl rfl rfl ⟨⟨cell_alloc_some _ x1, cell_alloc_some _ y1⟩, ?_⟩)
   refine hfO (i := 6) ?_
   simp only [Act.put, List.getElem_toArray, List.getElem_cons_zero, List.getElem_cons_succ, List.setIfInBounds_toArray, List.set_cons_zero, List.set_cons_succ]
   refine wcA #[.slice (some ⟨w1.drew.heap.size, 0, none⟩) 2 2] Tryz.call101 ((add2_yes w1.drew.heap.size y x _ (Blk.new w1.drew _ _) y0 x0 hsum).mono ?_)
   rintro e w2 ⟨rfl, hw2⟩
   have B2 : Below w.heap.size w w2 := hw2 ▸ B1.drew.alloc B1.size _
   have C2 : Hid (Blk w2 w.heap.size 140 #[.int .u64 D, .int .u64 P, .int .u64 B]) := Lib.hid (hw2 ▸ Blk.alloc (Blk.drew C1.out) _)
   have y2 : w2.cell? ⟨w.heap.size, s, none⟩ = some (.int .u64 y) := (C2.out.cell s).trans HY.out
   have x2 : w2.cell? ⟨wr.heap.size, 1, none⟩ = some (.int .u64 x) := by rw [← hw2]; exact cell_alloc_some _ x1
   have z2 : w2.frozen? ⟨w.heap.size, s, none⟩ = false := C2.out.frozen s
   have C3 : Hid (Blk (w2.setCell ⟨w.heap.size, s, none⟩ (.int .u64 (y + x))) w.heap.size 140 #[.int .u64 D', .int .u64 P', .int .u64 B']) := Lib.hid (by have := C2.out.set_ s (.int .u64 (y + x)); rwa [HU.out] at this)
   have B3 : Hid (Below w.heap.size w (w2.setCell ⟨w.heap.size, s, none⟩ (.int .u64 (y + x)))) := Lib.hid (B2.setCell (Nat.le_refl _) _)
   refine ⟨_, rfl, ⟨x2, y2⟩, ?_⟩
   clear hw2 C1 B1 x1 y1
   simp only [Act.put, List.getElem_toArray, List.getElem_cons_zero, List.getElem_cons_succ, List.setIfInBounds_toArray, List.set_cons_zero, List.set_cons_succ]
   refine hfT (fun w' => w'.cell? ⟨wr.heap.size, 1, none⟩ = some (.int .u64 x) ∧ w'.cell? ⟨w.heap.size, s, none⟩ = some (.int .u64 y)) (m := 4) (f := 0) [7, 8, 9, 10] ⟨x2, y2⟩ ?_
   simp only [List.filterMap_cons, List.filterMap_nil, List.getElem?_toArray, List.getElem?_cons_zero, List.getElem?_cons_succ]
   show wpQuiet _ _ _ _ [_, _, _, _] _
   iterate 4 (go_big_quiet_step ((intros; rfl)))
   refine wpQuiet_nil ?_
   show Region.seqB _ _ _ _ _ = true ∧ _
   refine ⟨by kernel_rfl, ?_⟩
   simp only [Act.put, List.getElem_toArray, List.getElem_cons_zero, List.getElem_cons_succ, List.setIfInBounds_toArray, List.set_cons_zero, List.set_cons_succ, List.drop_succ_cons, List.drop_zero]
   go_wp2
   refine NoPanic.normal ?_
   go_wp2
   go_roundw
   case rel => exact ⟨1, _, rfl, Lib.hid (.inr ⟨rfl, rfl⟩), C3, B3.out⟩
   case measure => simp [intOf]
  ·have hcs : cs = #[.int .u64 D', .int .u64 P', .int .u64 B'] := HK.out.elim (fun h => by cases h.1) (fun h => h.2)
   subst hcs
   clear HK
   have hb : LedAt wr b D P B C := Blk.below HB.out BR HL.out
   have HE : Hid (LedAt (((wr.setCell ⟨b, 0, none⟩ (.int .u64 D')).setCell ⟨b, 1, none⟩ (.int .u64 P')).setCell ⟨b, 2, none⟩ (.int .u64 B')) b D' P' B' C ∧ w.grownBy (((wr.setCell ⟨b, 0, none⟩ (.int .u64 D')).setCell ⟨b, 1, none⟩ (.int .u64 P')).setCell ⟨b, 2, none⟩ (.int .u64 B')) (some b)) := Lib.hid ⟨led_setCells hb, only_setCells (only_of_below BR _) _ _ _⟩
   obtain ⟨c0, c1, c2, c3⟩ := hb.cells
   have z0 := Blk.frozen hb 0
   have z1 := Blk.frozen hb 1
   have z2 := Blk.frozen hb 2
   clear hb
   go_wp2_with (refine wpList_load_row rfl 140 _ rfl w.heap.size rfl _ _ (0, 0) _ HC.out Tryz.underlying140 rfl infoA ?_)
   go_ret
   exact ⟨rfl, HE.out⟩
end
section
set_option maxRecDepth 100000
open Go Go.ChangeShapes Go.WideShapes Go.RowKit Go.Deep
structure Val where
 bal : Int
 st : Int
 sl : Bool
 rq : Int
 ex : Int
 wd : Int
 dl : Int
deriving DecidableEq, Inhabited
def Val.row (v : Val) : List Value := [.int .u64 v.bal, .int .i64 v.st, .bool v.sl, .int .i64 v.rq, .int .i64 v.ex, .int .i64 v.wd, .int .i64 v.dl]
def cellsV (v : Val) : Array Value := v.row.toArray
def FitsV (v : Val) : Prop := (Lit.int .u64 v.bal).wf = true ∧ (Lit.int .i64 v.st).wf = true
def val0 : Val := ⟨0, 0, false, 0, 0, 0, 0⟩
theorem row_len (v : Val) : v.row.length = 7 := rfl
theorem row_one (v : Val) : ∀ u ∈ v.row, u.oneCell' = true := by
 intro u hu
 simp only [Val.row, List.mem_cons, List.not_mem_nil, or_false] at hu
 rcases hu with rfl | rfl | rfl | rfl | rfl | rfl | rfl <;> rfl
theorem cellsV_one (v : Val) : (cellsV v).all (·.oneCell') = true := by
 refine Array.all_eq_true_iff_forall_mem.2 (fun u hu => row_one v u (by simpa [cellsV] using hu))
theorem cellsV_size (v : Val) : (cellsV v).size = 7 := rfl
theorem infoV : (Tryz.prog.info? 68).map (·.size) = some 7 := by kernel_rfl
theorem FitsV.bal {v : Val} (h : FitsV v) : 0 ≤ v.bal ∧ v.bal ≤ 18446744073709551615 := bounds_u64 h.1
section
variable {P : Program} (w : World)
theorem eqFields_any (d : Nat) (xs ys : Array Value) :
  ∀ (fs : List Field), (∀ f ∈ fs, f.name ≠ "_" ∧ ((∃ k n m, P.underlying f.type = some (.int k) ∧ xs[f.offset]? = some (.int k n) ∧ ys[f.offset]? = some (.int k m)) ∨ ∃ n m, P.underlying f.type = some .bool ∧ xs[f.offset]? = some (.bool n) ∧ ys[f.offset]? = some (.bool m))) →
   ∃ r, (Op.eqFields (d + 1) xs ys fs).run P w = .ok r w ∧ (r = true ↔ ∀ f ∈ fs, xs[f.offset]? = ys[f.offset]?)
 | [], _ => ⟨true, by simp [Op.eqFields], by simp⟩
 | f :: fs, h => by
  obtain ⟨hname, h1⟩ := h f (by simp)
  obtain ⟨r, hr, hr2⟩ := eqFields_any d xs ys fs (fun j hj => h j (by simp [hj]))
  rcases h1 with ⟨k, n, m, hk, hn, hm⟩ | ⟨n, m, hk, hn, hm⟩
  ·have hp := run_part_plain w (plainKey_int hk) hn
   have hp' := run_part_plain w (plainKey_int hk) hm
   have hq := run_equalIn_int (P := P) w d f.type k k n m hk
   by_cases he : n = m
   ·subst he
    refine ⟨r, by simp only [Op.eqFields, hname, ne_eq, not_false_eq_true, if_true, Sem.run_bind, hp, hp', hq, Result.andThen_ok]; simpa using hr, ?_⟩
    simp only [List.mem_cons, forall_eq_or_imp, hn, hm, true_and]
    exact hr2
   ·refine ⟨false, by simp only [Op.eqFields, hname, ne_eq, not_false_eq_true, if_true, Sem.run_bind, hp, hp', hq, Result.andThen_ok]; simp [he], ?_⟩
    simp [hn, hm, he]
  ·have hp := run_part_plain (P := P) w (e := f.type) (by simp [Program.plainKey, hk]) hn
   have hp' := run_part_plain (P := P) w (e := f.type) (by simp [Program.plainKey, hk]) hm
   have hq := run_equalIn_bool' (P := P) w d f.type n m hk
   by_cases he : n = m
   ·subst he
    refine ⟨r, by simp only [Op.eqFields, hname, ne_eq, not_false_eq_true, if_true, Sem.run_bind, hp, hp', hq, Result.andThen_ok]; simpa using hr, ?_⟩
    simp only [List.mem_cons, forall_eq_or_imp, hn, hm, true_and]
    exact hr2
   ·refine ⟨false, by simp only [Op.eqFields, hname, ne_eq, not_false_eq_true, if_true, Sem.run_bind, hp, hp', hq, Result.andThen_ok]; simp [he], ?_⟩
    simp [hn, hm, he]
theorem equal_struct_any {t : TypeId} {fs : Array Field} (xs ys : Array Value) (hu : P.underlying t = some (.struct fs)) (hp : P.stoodInHeld t = false)
  (hx : ∀ f ∈ fs.toList, f.name ≠ "_" ∧ ((∃ k n m, P.underlying f.type = some (.int k) ∧ xs[f.offset]? = some (.int k n) ∧ ys[f.offset]? = some (.int k m)) ∨ ∃ n m, P.underlying f.type = some .bool ∧ xs[f.offset]? = some (.bool n) ∧ ys[f.offset]? = some (.bool m))) :
  ∃ r, (Op.equalIn 10000 t (.agg xs) (.agg ys)).run P w = .ok r w ∧ (r = true ↔ ∀ f ∈ fs.toList, xs[f.offset]? = ys[f.offset]?) := by
 have hf : P.fieldsOf t = fs := by simp [Program.fieldsOf, hu]
 rw [run_equalIn_struct w 9999 t xs ys (by rw [hf]; exact hu) hp, hf]
 exact eqFields_any w 9998 xs ys _ hx
end
theorem eq_val (x y : Val) (w : World) : (Op.equalIn 10000 68 (.agg (cellsV x)) (.agg (cellsV y))).run Tryz.prog w = .ok (decide (x = y)) w := by
 obtain ⟨r, hr, hr2⟩ := equal_struct_any (P := Tryz.prog) w (cellsV x) (cellsV y) Tryz.underlying68 (by kernel_rfl) (fun f hf => by
  simp only [List.mem_cons, List.not_mem_nil, or_false] at hf
  rcases hf with rfl | rfl | rfl | rfl | rfl | rfl | rfl
  ·exact ⟨by decide, .inl ⟨.u64, x.bal, y.bal, Tryz.underlying23, rfl, rfl⟩⟩
  ·exact ⟨by decide, .inl ⟨.i64, x.st, y.st, Tryz.underlying3, rfl, rfl⟩⟩
  ·exact ⟨by decide, .inr ⟨x.sl, y.sl, Tryz.underlying4, rfl, rfl⟩⟩
  ·exact ⟨by decide, .inl ⟨.i64, x.rq, y.rq, Tryz.underlying3, rfl, rfl⟩⟩
  ·exact ⟨by decide, .inl ⟨.i64, x.ex, y.ex, Tryz.underlying3, rfl, rfl⟩⟩
  ·exact ⟨by decide, .inl ⟨.i64, x.wd, y.wd, Tryz.underlying3, rfl, rfl⟩⟩
  ·exact ⟨by decide, .inl ⟨.i64, x.dl, y.dl, Tryz.underlying3, rfl, rfl⟩⟩)
 refine hr.trans ?_
 have : r = decide (x = y) := by
  rw [Bool.eq_iff_iff, hr2, decide_eq_true_eq]
  constructor
  ·intro h
   simp only [List.mem_cons, List.not_mem_nil, or_false, forall_eq_or_imp, forall_eq] at h
   obtain ⟨h0, h1, h2, h3, h4, h5, h6⟩ := h
   obtain ⟨a0, a1, a2, a3, a4, a5, a6⟩ := x
   obtain ⟨b0, b1, b2, b3, b4, b5, b6⟩ := y
   simp [cellsV, Val.row] at h0 h1 h2 h3 h4 h5 h6
   simp [*]
  ·rintro rfl
   simp
 rw [this]
def flat (l : List Val) : List Value := l.flatMap Val.row
theorem flat_len (l : List Val) : (flat l).length = l.length * 7 := by
 induction l with
 | nil => rfl
 | cons x l ih => simp only [flat, List.flatMap_cons, List.length_append, row_len, List.length_cons] at ih ⊢; omega
theorem flat_append (l m : List Val) : flat (l ++ m) = flat l ++ flat m := by simp [flat]
theorem flat_one (v : Val) : flat [v] = v.row := by simp [flat]
theorem flat_mem {l : List Val} : ∀ u ∈ flat l, u.oneCell' = true := by
 intro u hu
 obtain ⟨v, _, hv⟩ := List.mem_flatMap.1 hu
 exact row_one v u hv
theorem flat_at {l : List Val} {i : Nat} {v : Val} (h : l[i]? = some v) {j : Nat} (hj : j < 7) : (flat l)[i * 7 + j]? = v.row[j]? := by
 induction l generalizing i with
 | nil => simp at h
 | cons x l ih =>
  cases i with
  | zero =>
   simp at h
   subst h
   simp only [flat, List.flatMap_cons, Nat.zero_mul, Nat.zero_add]
   rw [List.getElem?_append_left (by rw [row_len]; exact hj)]
  | succ i =>
   simp only [List.getElem?_cons_succ] at h
   have := ih h
   simp only [flat, List.flatMap_cons] at this ⊢
   rw [List.getElem?_append_right (by rw [row_len]; omega), row_len, show (i + 1) * 7 + j - 7 = i * 7 + j by omega]
   exact this
theorem range_of_flat {w : World} {b off : Nat} {l : List Val} (h : ∀ j u, (flat l)[j]? = some u → w.cell? ⟨b, off + j, none⟩ = some u) {i : Nat} {v : Val} (hi : l[i]? = some v) : w.rangeAt b (off + i * 7) v.row := by
 intro j u hu
 have hj : j < 7 := (List.getElem?_eq_some_iff.1 hu).1
 rw [Nat.add_assoc]
 exact h _ _ ((flat_at hi hj).trans hu)
theorem flat_of_range {w : World} {b off : Nat} {l : List Val} (h : ∀ i v, l[i]? = some v → w.rangeAt b (off + i * 7) v.row) : ∀ j u, (flat l)[j]? = some u → w.cell? ⟨b, off + j, none⟩ = some u := by
 intro j u hu
 have hj : j < l.length * 7 := by rw [← flat_len]; exact (List.getElem?_eq_some_iff.1 hu).1
 have hq : j / 7 < l.length := by omega
 have hr : j % 7 < 7 := by omega
 have e := flat_at (List.getElem?_eq_getElem hq) hr
 rw [show j / 7 * 7 + j % 7 = j by omega, hu] at e
 have := h _ _ (List.getElem?_eq_getElem hq) (j % 7) u e.symm
 rwa [show off + j / 7 * 7 + j % 7 = off + j by omega] at this
theorem World.rangeAt.same {w w' : World} {b o : Nat} {cs : List Value} (h : w.rangeAt b o cs) (hb : w'.heap[b]? = w.heap[b]?) : w'.rangeAt b o cs := fun j v hv => (World.cell?_of_block (w := w) (a := ⟨b, o + j, none⟩) hb).trans (h j v hv)
theorem Blk.range {w : World} {b t : Nat} {v : Val} (h : Blk w b t (cellsV v)) : w.rangeAt b 0 v.row := fun j u hu => by
 rw [Nat.zero_add, h.cell j]
 simpa [cellsV] using hu
def Lst (w : World) (S : Nat → Prop) (a : Option Addr) (l : List Val) : Prop :=
 0 < l.length → ∃ b off, a = some ⟨b, off, none⟩ ∧ ¬ S b ∧ b < w.heap.size ∧ ∀ i v, l[i]? = some v → w.rangeAt b (off + i * 7) v.row
section
variable {w w' : World} {S T : Nat → Prop} {a : Option Addr} {l : List Val} {B : Nat}
theorem Lst.nil (w : World) (S : Nat → Prop) (a : Option Addr) : Lst w S a [] := fun h => by simp at h
theorem Lst.same (h : Lst w S a l) (hs : w.heap.size ≤ w'.heap.size) (hb : ∀ b, b < w.heap.size → ¬ S b → w'.heap[b]? = w.heap[b]?) : Lst w' S a l := fun h0 => by
 obtain ⟨b, off, h1, h2, h3, h4⟩ := h h0
 exact ⟨b, off, h1, h2, by omega, fun i v hi => World.rangeAt.same (h4 i v hi) (hb b h3 h2)⟩
theorem Lst.below (h : Lst w S a l) (hb : Below w.heap.size w w') : Lst w' S a l := h.same hb.size fun b hlt _ => hb.block b hlt
theorem Lst.alloc (h : Lst w S a l) (o : Obj) : Lst (w.alloc o) S a l := h.same (by simp) fun b hlt _ => Below.heap_alloc w o b hlt
theorem Lst.drewN (h : Lst w S a l) (n : Nat) : Lst (w.drewN n) S a l := h
theorem Lst.drew (h : Lst w S a l) : Lst w.drew S a l := h
theorem Lst.more (h : Lst w S a l) (hT : ∀ i, i < w.heap.size → T i → S i) : Lst w T a l := fun h0 => by
 obtain ⟨b, off, h1, h2, h3, h4⟩ := h h0
 exact ⟨b, off, h1, fun ht => h2 (hT b h3 ht), h3, h4⟩
theorem Lst.at (h : Lst w S a l) {i : Nat} {v : Val} (hi : l[i]? = some v) : ∃ b off, a = some ⟨b, off, none⟩ ∧ w.rangeAt b (off + i * 7) v.row := by
 obtain ⟨b, off, h1, _, _, h4⟩ := h (by have := (List.getElem?_eq_some_iff.1 hi).1; omega)
 exact ⟨b, off, h1, h4 i v hi⟩
theorem Lst.flat (h : Lst w S a l) (h0 : 0 < l.length) : ∃ ad, a = some ad ∧ ∀ j u, (flat l)[j]? = some u → w.cell? (ad.add j) = some u := by
 obtain ⟨b, off, h1, _, _, h4⟩ := h h0
 refine ⟨⟨b, off, none⟩, h1, fun j u hu => ?_⟩
 rw [add_plain]
 exact flat_of_range h4 j u hu
end
section
variable {P : Program} {ops : Array Oper} {rest : List Oper} {op : Oper} {a : Act} {w : World} {Q : Exit → Act → World → Prop}
theorem wpList_load_val (hgd : op.guard = none) (ty : TypeId) (x : Operand) (ho : op.op = .load ty x)
  (b o : Nat) (hx : a.eval x = .pointer (some ⟨b, o, none⟩)) (v : Val) (d : TypeDesc) (hc : w.rangeAt b o v.row)
  (hu : P.underlying ty = some d) (hd : d.isRow = true) (hi : (P.info? ty).map (·.size) = some 7)
  (h : wpList P ops Q rest (a.put op.dst (.agg (cellsV v))) w) : wpList P ops Q (op :: rest) a w :=
 wpList_load_mid hgd ty x ho b o hx v.row d hc hu hd hi h
theorem q_load_val {C : World → Prop} {Qa : Act → Prop} (ty : TypeId) (x : Operand) (b o : Nat) (v : Val) (d : TypeDesc) (hw : Region.wanted op (yielded ops a.tmps) = true) (ho : op.op = .load ty x) (hx : a.eval x = .pointer (some ⟨b, o, none⟩))
  (hC : ∀ w, C w → w.rangeAt b o v.row) (hu : P.underlying ty = some d) (hd : d.isRow = true) (hi : (P.info? ty).map (·.size) = some 7)
  (h : wpQuiet P ops C Qa rest (a.put op.dst (.agg (cellsV v)))) : wpQuiet P ops C Qa (op :: rest) a := by
 unfold wpQuiet
 rw [if_pos hw]
 refine ⟨_, fun w hc => ?_, h⟩
 unfold Oper.quietAt execOp
 simp only [ho, hx, Instr.loadAt, Instr.sureAddr, Sem.run_bind, Sem.run_pure, Result.andThen_ok, run_loadVar_mid w b o ty v.row d (hC w hc) hu hd hi]
 exact ⟨rfl, rfl⟩
end
section
variable {H : Type} {enc : TypeId × Value → H} {w : World} {base : Nat} {spare : Nat → Bool} {held : Bool}
theorem trod_val {n : Nat} {cs : List Value} {x : DataW H × List MemPlace} (h : DataW.trod enc Tryz.prog w base spare held n 68 cs = some x) : ∃ v : Val, cs = v.row ∧ FitsV v := by
 obtain ⟨ys, n', hn', hy, hlen, hyl, hf⟩ := DataW.trod_struct Tryz.underlying68 h
 have hlen : cs.length = 7 := hlen.trans (by kernel_rfl)
 have hyl : ys.length = 7 := hyl
 have hv : ∀ j, j < 7 → ∃ v, cs[j]? = some v := fun j hj => ⟨_, List.getElem?_eq_getElem (by omega)⟩
 have hone : ∀ j (f : Field) v, j < 7 → f.offset = j → Tryz.prog.cellsOf f.type = 1 → cs[j]? = some v → (∀ y, DataW.trod enc Tryz.prog w base spare held n' f.type [v] = some y → ∃ y', ys[j]? = some y') → True := fun _ _ _ _ _ _ _ _ => trivial
 clear hone
 have get : ∀ j (f : Field), j < 7 → f.offset = j → Tryz.prog.cellsOf f.type = 1 → DataW.trod enc Tryz.prog w base spare held n' f.type ((cs.drop f.offset).take (Tryz.prog.cellsOf f.type)) = ys[j]? → ∃ v y, cs[j]? = some v ∧ DataW.trod enc Tryz.prog w base spare held n' f.type [v] = some y := by
  intro j f hj ho hc ht
  rw [ho, hc, List.drop_eq_getElem_cons (by omega), List.getElem?_eq_getElem (by omega)] at ht
  exact ⟨_, _, List.getElem?_eq_getElem (by omega), ht⟩
 obtain ⟨v0, y0, c0, t0⟩ := get 0 _ (by omega) rfl (by kernel_rfl) (hf 0 _ rfl)
 obtain ⟨v1, y1, c1, t1⟩ := get 1 _ (by omega) rfl (by kernel_rfl) (hf 1 _ rfl)
 obtain ⟨v2, y2, c2, t2⟩ := get 2 _ (by omega) rfl (by kernel_rfl) (hf 2 _ rfl)
 obtain ⟨v3, y3, c3, t3⟩ := get 3 _ (by omega) rfl (by kernel_rfl) (hf 3 _ rfl)
 obtain ⟨v4, y4, c4, t4⟩ := get 4 _ (by omega) rfl (by kernel_rfl) (hf 4 _ rfl)
 obtain ⟨v5, y5, c5, t5⟩ := get 5 _ (by omega) rfl (by kernel_rfl) (hf 5 _ rfl)
 obtain ⟨v6, y6, c6, t6⟩ := get 6 _ (by omega) rfl (by kernel_rfl) (hf 6 _ rfl)
 obtain ⟨x0, e0, _, w0⟩ := DataW.trod_int Tryz.underlying23 t0
 obtain ⟨x1, e1, _, w1⟩ := DataW.trod_int Tryz.underlying3 t1
 obtain ⟨x2, e2, _⟩ := DataW.trod_bool Tryz.underlying4 t2
 obtain ⟨x3, e3, _, _⟩ := DataW.trod_int Tryz.underlying3 t3
 obtain ⟨x4, e4, _, _⟩ := DataW.trod_int Tryz.underlying3 t4
 obtain ⟨x5, e5, _, _⟩ := DataW.trod_int Tryz.underlying3 t5
 obtain ⟨x6, e6, _, _⟩ := DataW.trod_int Tryz.underlying3 t6
 injection e0 with e0; injection e1 with e1; injection e2 with e2; injection e3 with e3; injection e4 with e4; injection e5 with e5; injection e6 with e6
 subst e0 e1 e2 e3 e4 e5 e6
 refine ⟨⟨x0, x1, x2, x3, x4, x5, x6⟩, ?_, w0, w1⟩
 match cs, hlen with
 | [a0, a1, a2, a3, a4, a5, a6], _ =>
  simp at c0 c1 c2 c3 c4 c5 c6
  subst c0 c1 c2 c3 c4 c5 c6
  rfl
end
end
section
set_option maxRecDepth 100000
open Go Go.RowKit Go.Deep
def liveB (s : Int) : Bool := decide (s = 2 ∨ s = 3)
def totalOf : List Val → Int
 | [] => 0
 | v :: l => v.bal + totalOf l
def liveBal (v : Val) : Int := if liveB v.st = true then v.bal else 0
def activeOf : List Val → Int
 | [] => 0
 | v :: l => liveBal v + activeOf l
def countOf : List Val → Int → Int
 | [], _ => 0
 | v :: l, s => (if v.st = s then 1 else 0) + countOf l s
theorem liveBal_le {v : Val} (h : 0 ≤ v.bal) : 0 ≤ liveBal v ∧ liveBal v ≤ v.bal := by unfold liveBal; split <;> omega
theorem total_append (l m : List Val) : totalOf (l ++ m) = totalOf l + totalOf m := by
 induction l with
 | nil => simp [totalOf]
 | cons v l ih => simp only [List.cons_append, totalOf, ih]; omega
theorem active_append (l m : List Val) : activeOf (l ++ m) = activeOf l + activeOf m := by
 induction l with
 | nil => simp [activeOf]
 | cons v l ih => simp only [List.cons_append, activeOf, ih]; omega
theorem count_append (l m : List Val) (s : Int) : countOf (l ++ m) s = countOf l s + countOf m s := by
 induction l with
 | nil => simp [countOf]
 | cons v l ih => simp only [List.cons_append, countOf, ih]; omega
theorem total_nonneg {l : List Val} (h : ∀ v ∈ l, FitsV v) : 0 ≤ totalOf l := by
 induction l with
 | nil => simp [totalOf]
 | cons v l ih =>
  have h1 := (h v (by simp)).bal
  have h2 := ih (fun x hx => h x (by simp [hx]))
  simp only [totalOf]; omega
theorem active_le {l : List Val} (h : ∀ v ∈ l, FitsV v) : 0 ≤ activeOf l ∧ activeOf l ≤ totalOf l := by
 induction l with
 | nil => simp [totalOf, activeOf]
 | cons v l ih =>
  have h1 := liveBal_le (h v (by simp)).bal.1
  have h2 := ih (fun x hx => h x (by simp [hx]))
  simp only [totalOf, activeOf]; omega
theorem count_bounds (l : List Val) (s : Int) : 0 ≤ countOf l s ∧ countOf l s ≤ l.length := by
 induction l with
 | nil => simp [countOf]
 | cons v l ih =>
  simp only [countOf, List.length_cons]
  split <;> omega
theorem split_at {l : List Val} {i : Nat} {old : Val} (h : l[i]? = some old) : ∃ l1 l2, l = l1 ++ old :: l2 ∧ ∀ v, l.set i v = l1 ++ v :: l2 := by
 have hi := (List.getElem?_eq_some_iff.1 h).1
 have he := (List.getElem?_eq_some_iff.1 h).2
 refine ⟨l.take i, l.drop (i + 1), ?_, fun v => ?_⟩
 ·rw [← he]
  rw [List.getElem_cons_drop, List.take_append_drop]
 ·rw [List.set_eq_take_append_cons_drop, if_pos hi]
theorem total_set {l : List Val} {i : Nat} {old : Val} (h : l[i]? = some old) (v : Val) : totalOf (l.set i v) = totalOf l - old.bal + v.bal := by
 obtain ⟨l1, l2, h1, h2⟩ := split_at h
 rw [h2, h1, total_append, total_append]
 simp only [totalOf]; omega
theorem active_set {l : List Val} {i : Nat} {old : Val} (h : l[i]? = some old) (v : Val) : activeOf (l.set i v) = activeOf l - liveBal old + liveBal v := by
 obtain ⟨l1, l2, h1, h2⟩ := split_at h
 rw [h2, h1, active_append, active_append]
 simp only [activeOf]; omega
theorem count_set {l : List Val} {i : Nat} {old : Val} (h : l[i]? = some old) (v : Val) (s : Int) : countOf (l.set i v) s = countOf l s - (if old.st = s then 1 else 0) + (if v.st = s then 1 else 0) := by
 obtain ⟨l1, l2, h1, h2⟩ := split_at h
 rw [h2, h1, count_append, count_append]
 simp only [countOf]; omega
def RegB (w : World) (b m : Nat) (s : Value) (cap : Nat) (c : Int → Int) (A T : Int) : Prop :=
 Blk w b 146 #[.int .i64 cap, s, .map (some m), .int .u64 A, .int .u64 T] ∧ CntAt w m c
def Reg (w : World) (b : Nat) (S : Nat → Prop) (cap : Nat) (l : List Val) : Prop :=
 ∃ m s, RegB w b m s cap (countOf l) (activeOf l) (totalOf l) ∧ w.ownsRow 0 68 7 s l.length (flat l) ∧ 1 ≤ cap ∧ cap ≤ 4096 ∧ l.length ≤ cap ∧ totalOf l ≤ 18446744073709551615 ∧ (∀ v ∈ l, FitsV v) ∧ ∀ i, S i ↔ i = b ∨ i = m ∨ s.ownBlock = some i
section
variable {w w' : World} {b m cap : Nat} {s : Value} {S T : Nat → Prop} {l : List Val} {c : Int → Int} {A Tt : Int}
theorem RegB.ne (h : RegB w b m s cap c A Tt) : b ≠ m := by
 rintro rfl
 obtain ⟨h1, es, clock, h2, _⟩ := h
 unfold Blk at h1
 rw [h1] at h2
 cases h2
theorem RegB.cells (h : RegB w b m s cap c A Tt) : w.cell? ⟨b, 0, none⟩ = some (.int .i64 cap) ∧ w.cell? ⟨b, 1, none⟩ = some s ∧ w.cell? ⟨b, 2, none⟩ = some (.map (some m)) ∧ w.cell? ⟨b, 3, none⟩ = some (.int .u64 A) ∧ w.cell? ⟨b, 4, none⟩ = some (.int .u64 Tt) :=
 ⟨h.1.cell 0, h.1.cell 1, h.1.cell 2, h.1.cell 3, h.1.cell 4⟩
theorem RegB.same (h : RegB w b m s cap c A Tt) (hb : w'.heap[b]? = w.heap[b]?) (hm : w'.heap[m]? = w.heap[m]?) : RegB w' b m s cap c A Tt := ⟨hb.trans h.1, h.2.same hm⟩
theorem owns_slice {n : Nat} {xs : List Value} (h : w.ownsRow 0 68 7 s n xs) : ∃ a cp, s = .slice a n cp ∧ n ≤ cp ∧ cp ≤ maxLen := by
 rcases h.2 with ⟨rfl, rfl⟩ | ⟨g, cp, cur, rfl, _, _, h1, h2, _⟩
 ·exact ⟨none, 0, rfl, by omega, by unfold maxLen; omega⟩
 ·exact ⟨_, cp, rfl, h1, h2⟩
theorem owns_lst {l : List Val} {a : Option Addr} {cp : Nat} (h : w.ownsRow 0 68 7 (.slice a l.length cp) l.length (flat l)) (hS : ∀ i, (Value.slice a l.length cp).ownBlock = some i → ¬ S i) : Lst w S a l := fun h0 => by
 rcases h.2 with ⟨h1, h2⟩ | ⟨g, cp', cur, h1, _, h3, _⟩
 ·omega
 ·injection h1 with h1 _ _
  subst h1
  refine ⟨g, 0, rfl, hS g rfl, (Array.getElem?_eq_some_iff.1 h3).1, fun i v hi => ?_⟩
  exact range_of_flat (fun j u hu => by
   have := h.cells rfl j u hu
   rwa [add_plain] at this) hi
theorem owns_same {n : Nat} {xs : List Value} (h : w.ownsRow 0 68 7 s n xs) (hb : ∀ i, s.ownBlock = some i → w'.heap[i]? = w.heap[i]?) : w'.ownsRow 0 68 7 s n xs := by
 refine ⟨h.1, h.2.imp id ?_⟩
 rintro ⟨g, cp, cur, rfl, h1, h2, h3⟩
 exact ⟨g, cp, cur, rfl, h1, (hb g rfl).trans h2, h3⟩
theorem Reg.lt (h : Reg w b S cap l) : ∀ i, S i → i < w.heap.size := fun i hi => by
 obtain ⟨m, s, h1, h2, _, _, _, _, _, hS⟩ := h
 rcases (hS i).1 hi with rfl | rfl | hs
 ·exact h1.1.lt
 ·exact h1.2.lt
 ·exact (h2.lt i hs).2
theorem Reg.same (h : Reg w b S cap l) (hb : ∀ i, S i → w'.heap[i]? = w.heap[i]?) : Reg w' b S cap l := by
 obtain ⟨m, s, h1, h2, h3, h4, h5, h6, h7, hS⟩ := h
 exact ⟨m, s, h1.same (hb b ((hS b).2 (.inl rfl))) (hb m ((hS m).2 (.inr (.inl rfl)))), owns_same h2 (fun i hi => hb i ((hS i).2 (.inr (.inr hi)))), h3, h4, h5, h6, h7, hS⟩
theorem Reg.kept (h : Reg w b S cap l) (k : Kept T w w') (hT : ∀ i, S i → ¬ T i) : Reg w' b S cap l := h.same fun i hi => k.block i (h.lt i hi) (hT i hi)
theorem Reg.below (h : Reg w b S cap l) (k : Below w.heap.size w w') : Reg w' b S cap l := h.same fun i hi => k.block i (h.lt i hi)
theorem Reg.alloc (h : Reg w b S cap l) (o : Obj) : Reg (w.alloc o) b S cap l := h.below ((Below.refl _ _).alloc (Nat.le_refl _) o)
theorem Reg.drewN (h : Reg w b S cap l) (n : Nat) : Reg (w.drewN n) b S cap l := h
theorem Reg.drew (h : Reg w b S cap l) : Reg w.drew b S cap l := h
theorem Reg.pos (h : Reg w b S cap l) : S b := by
 obtain ⟨m, s, h1, h2, h3, h4, h5, h6, h7, hS⟩ := h
 exact (hS b).2 (.inl rfl)
theorem Reg.fits (h : Reg w b S cap l) : 1 ≤ cap ∧ cap ≤ 4096 ∧ l.length ≤ cap ∧ totalOf l ≤ 18446744073709551615 ∧ ∀ v ∈ l, FitsV v := by
 obtain ⟨m, s, h1, h2, h3, h4, h5, h6, h7, hS⟩ := h
 exact ⟨h3, h4, h5, h6, h7⟩
theorem Reg.cells (h : Reg w b S cap l) : ∃ m a cp, w.cell? ⟨b, 0, none⟩ = some (.int .i64 cap) ∧ w.cell? ⟨b, 1, none⟩ = some (.slice a l.length cp) ∧ w.cell? ⟨b, 2, none⟩ = some (.map (some m)) ∧ w.cell? ⟨b, 3, none⟩ = some (.int .u64 (activeOf l)) ∧ w.cell? ⟨b, 4, none⟩ = some (.int .u64 (totalOf l)) ∧
  l.length ≤ cp ∧ cp ≤ maxLen ∧ CntAt w m (countOf l) ∧ Lst w (fun _ => False) a l := by
 obtain ⟨m, s, h1, h2, h3, h4, h5, h6, h7, hS⟩ := h
 obtain ⟨a, cp, rfl, q1, q2⟩ := owns_slice h2
 exact ⟨m, a, cp, h1.cells.1, h1.cells.2.1, h1.cells.2.2.1, h1.cells.2.2.2.1, h1.cells.2.2.2.2, q1, q2, h1.2, owns_lst h2 (fun _ _ h => h)⟩
end
theorem live_any (s : Int) (w : World) : CallW 103 #[.int .i64 s] w (.bool (liveB s)) := by
 by_cases h2 : s = 2
 ·subst h2
  go_enter Tryz.func103, Tryz.ntmps103
  go_wp2
  go_ret
  exact ⟨rfl, rfl⟩
 ·by_cases h3 : s = 3
  ·subst h3
   go_enter Tryz.func103, Tryz.ntmps103
   go_wp2
   go_ret
   exact ⟨rfl, rfl⟩
  ·have hb : Hid (liveB s = false) := Lib.hid (by unfold liveB; simp [h2, h3])
   go_enter Tryz.func103, Tryz.ntmps103
   go_wp2
   go_ret
   exact ⟨by rw [hb.out]; simp [h2, h3], rfl⟩
theorem reflive_any (s : Int) (w : World) : CallW 117 #[.int .i64 s] w (.bool (liveB s)) := by
 by_cases h2 : s = 2
 ·subst h2
  go_enter Tryz.func117, Tryz.ntmps117
  go_wp2
  go_ret
  exact ⟨rfl, rfl⟩
 ·by_cases h3 : s = 3
  ·subst h3
   go_enter Tryz.func117, Tryz.ntmps117
   go_wp2
   go_ret
   exact ⟨rfl, rfl⟩
  ·have hb : Hid (liveB s = false) := Lib.hid (by unfold liveB; simp [h2, h3])
   go_enter Tryz.func117, Tryz.ntmps117
   go_wp2
   go_ret
   exact ⟨by rw [hb.out]; simp [h2, h3], rfl⟩
theorem new_raw (s : Nat) (w : World) (h : 1 ≤ s) (h2 : s ≤ 4096) :
  Calls Tryz.prog 75 #[.int .i64 s] w fun e w' => e = .returned (.pointer (some ⟨w.heap.size + 1, 0, none⟩)) ∧ (w.alloc (.map #[] 0)).alloc (.cells #[.int .i64 s, .slice none 0 0, .map (some w.heap.size), .int .u64 0, .int .u64 0] 146) = w' := by
 have h0 : ¬ (s : Int) < 1 := by omega
 have h3 : ¬ (4096 : Int) < (s : Int) := by omega
 have hmm := @run_makeMap Tryz.prog
 go_enter Tryz.func75, Tryz.ntmps75
 go_wp2
 go_ret
 exact ⟨rfl, rfl⟩
theorem new_any_07 (cap : Nat) (w : World) (h : 1 ≤ cap) (h2 : cap ≤ 4096) :
  Calls Tryz.prog 75 #[.int .i64 cap] w fun e w' => ∃ b S, e = .returned (.pointer (some ⟨b, 0, none⟩)) ∧ Reg w' b S cap [] ∧ (∀ i, S i → w.heap.size ≤ i) ∧ Below w.heap.size w w' := by
 refine (new_raw cap w h h2).mono ?_
 rintro e w' ⟨rfl, rfl⟩
 refine ⟨w.heap.size + 1, fun i => i = w.heap.size + 1 ∨ i = w.heap.size, rfl, ⟨w.heap.size, .slice none 0 0, ⟨?_, ?_⟩, World.ownsRow_nil _ _ _ _, h, h2, by simp, by simp [totalOf], by simp, fun i => by simp [Value.ownBlock]⟩, fun i hi => by omega, ?_⟩
 ·have := Blk.new (w.alloc (.map #[] 0)) 146 #[.int .i64 cap, .slice none 0 0, .map (some w.heap.size), .int .u64 0, .int .u64 0]
  simpa [activeOf, totalOf] using this
 ·exact ((cntAt_made w).alloc _).congr (fun q => by simp [countOf])
 ·exact ((Below.refl _ _).alloc (Nat.le_refl _) _).alloc (by simp) _
theorem len_any (b n cp : Nat) (a : Option Addr) (w : World) (h : w.cell? ⟨b, 1, none⟩ = some (.slice a n cp)) : CallW 120 #[.pointer (some ⟨b, 0, none⟩)] w (.int .i64 n) := by
 go_enter Tryz.func120, Tryz.ntmps120
 go_wp2
 go_ret
 exact ⟨rfl, rfl⟩
theorem active_any (b : Nat) (A : Int) (w : World) (h : w.cell? ⟨b, 3, none⟩ = some (.int .u64 A)) : CallW 44 #[.pointer (some ⟨b, 0, none⟩)] w (.int .u64 A) := by
 go_enter Tryz.func44, Tryz.ntmps44
 go_wp2
 go_ret
 exact ⟨rfl, rfl⟩
theorem zero_int (w : World) : (zeroValue 3).run Tryz.prog w = .ok (.int .i64 0) w := by
 obtain ⟨i, hi, hz, _⟩ := info_of (P := Tryz.prog) (t := 3) (z := .int .i64 0) (n := 1) (by kernel_rfl)
 simp [zeroValue, typeInfo, hi, hz, Result.andThen]
theorem count_nil (s : Int) (w : World) : CallW 261 #[.pointer none, .int .i64 s] w (.int .i64 0) := by
 go_enter Tryz.func261, Tryz.ntmps261
 go_wp2
 go_ret
 exact ⟨rfl, rfl⟩
theorem count_any (b m : Nat) (c : Int → Int) (s : Int) (w : World) (h : w.cell? ⟨b, 2, none⟩ = some (.map (some m))) (hc : CntAt w m c) (hs : (Lit.int .i64 s).wf = true) :
  CallW 261 #[.pointer (some ⟨b, 0, none⟩), .int .i64 s] w (.int .i64 (c s)) := by
 have hl := hc.lookup Tryz.underlying3 Tryz.underlying144 (zero_int w) hs
 generalize c s = q at *
 clear hc
 go_enter Tryz.func261, Tryz.ntmps261
 go_wp2
 go_ret
 exact ⟨rfl, rfl⟩
theorem has_neg (p : Option Addr) (i : Int) (w : World) (h : i < 0) : CallW 176 #[.pointer p, .int .i64 i] w (.bool false) := by
 have h1 : ¬ 0 ≤ i := by omega
 go_enter Tryz.func176, Tryz.ntmps176
 go_wp2
 go_ret
 exact ⟨rfl, rfl⟩
theorem has_out (b n cp : Nat) (a : Option Addr) (i : Int) (w : World) (h : w.cell? ⟨b, 1, none⟩ = some (.slice a n cp)) (ho : i < 0 ∨ n ≤ i) : CallW 176 #[.pointer (some ⟨b, 0, none⟩), .int .i64 i] w (.bool false) := by
 by_cases h0 : i < 0
 ·exact has_neg _ i w h0
 ·have h1 : 0 ≤ i := by omega
  have h2 : ¬ i < n := by omega
  clear ho
  go_enter Tryz.func176, Tryz.ntmps176
  go_wp2_with fail
  refine (len_any b n cp a _ h).mono ?_
  rintro e w' ⟨rfl, rfl⟩
  go_wp2
  go_ret
  exact ⟨ret_bool (by simp; omega), rfl⟩
theorem has_in (b n cp i : Nat) (a : Option Addr) (w : World) (h : w.cell? ⟨b, 1, none⟩ = some (.slice a n cp)) (ho : i < n) : CallW 176 #[.pointer (some ⟨b, 0, none⟩), .int .i64 i] w (.bool true) := by
 have h1 : (0 : Int) ≤ i := by omega
 have h2 : (i : Int) < n := by omega
 go_enter Tryz.func176, Tryz.ntmps176
 go_wp2_with fail
 refine (len_any b n cp a _ h).mono ?_
 rintro e w' ⟨rfl, rfl⟩
 go_wp2
 go_ret
 exact ⟨rfl, rfl⟩
end
section
set_option maxRecDepth 100000
open Go Go.RowKit Go.Deep
def CallsB (P : Program) (f : FuncId) (args : Array Value) (w : World) (R : Ending → World → Prop) : Prop :=
 Calls P f args w R ∧ ∀ u, CallsD P f args u w fun e u' w' => u' = u ∧ R e w'
theorem callsB_of_wp {P : Program} {f : FuncId} {fn : Func} {c : Code} {args : Array Value} {w : World} {R : Ending → World → Prop} (hf : P.funcs[f]? = some fn) (hb : fn.body = some c)
  (h : c.wp P (bodyPost P fn R) { tmps := args ++ Array.replicate (fn.ntmps - args.size) undef, defers := [] } w) : CallsB P f args w R :=
 ⟨calls_of_wp hf hb h, fun _ => callsD_of_wp hf hb h⟩
theorem CallsB.mono {P : Program} {f : FuncId} {args : Array Value} {w : World} {R R' : Ending → World → Prop} (h : CallsB P f args w R) (hr : ∀ e w', R e w' → R' e w') : CallsB P f args w R' :=
 ⟨h.1.mono hr, fun u => (h.2 u).mono fun e u' w' ⟨h1, h2⟩ => ⟨h1, hr e w' h2⟩⟩
section
variable {w w' : World} {b m cap : Nat} {s : Value} {c : Int → Int} {A T : Int}
theorem RegB.alloc (h : RegB w b m s cap c A T) (o : Obj) : RegB (w.alloc o) b m s cap c A T := ⟨h.1.alloc o, h.2.alloc o⟩
theorem RegB.drewN (h : RegB w b m s cap c A T) (n : Nat) : RegB (w.drewN n) b m s cap c A T := h
theorem RegB.total (h : RegB w b m s cap c A T) (x : Int) : RegB (w.setCell ⟨b, 4, none⟩ (.int .u64 x)) b m s cap c A x := ⟨h.1.set_ 4 _, h.2.setCell (fun e => h.ne e.symm) _⟩
theorem RegB.active (h : RegB w b m s cap c A T) (x : Int) : RegB (w.setCell ⟨b, 3, none⟩ (.int .u64 x)) b m s cap c x T := ⟨h.1.set_ 3 _, h.2.setCell (fun e => h.ne e.symm) _⟩
theorem RegB.list (h : RegB w b m s cap c A T) (x : Value) : RegB (w.setCell ⟨b, 1, none⟩ x) b m x cap c A T := ⟨h.1.set_ 1 _, h.2.setCell (fun e => h.ne e.symm) _⟩
theorem RegB.counted (h : RegB w b m s cap c A T) {c' : Int → Int} (hc : CntAt w' m c') (hg : w.grownBy w' (some m)) : RegB w' b m s cap c' A T := ⟨h.1.grown hg (fun e => h.ne (by injection e)), hc⟩
end
set_option maxHeartbeats 800000 in
theorem include_yes (b m cap : Nat) (s : Value) (c : Int → Int) (A T : Int) (v : Val) (w : World) (h : RegB w b m s cap c A T) (hv : FitsV v) (hl : liveB v.st = true)
  (hA0 : 0 ≤ A) (hA : A + v.bal ≤ 18446744073709551615) (hT0 : 0 ≤ T) (hT : T + v.bal ≤ 18446744073709551615) (hc0 : 0 ≤ c v.st) (hc1 : c v.st ≤ 4096) :
  CallsB Tryz.prog 214 #[.pointer (some ⟨b, 0, none⟩), .agg (cellsV v)] w fun e w' => e = .returned (.tuple #[]) ∧ RegB w' b m s cap (upd c v.st (c v.st + 1)) (A + v.bal) (T + v.bal) ∧ Kept (fun i => i = b ∨ i = m) w w' := by
 have HL : Hid (∀ w, CallW 103 #[.int .i64 v.st] w (.bool true)) := Lib.hid (fun w => by have := live_any v.st w; rwa [hl] at this)
 have hK : Kept (fun i => i = b ∨ i = m) w (w.alloc (.cells (cellsV v) 68)) := (Kept.refl _ w).alloc _
 have hE : Blk (w.alloc (.cells (cellsV v) 68)) w.heap.size 68 (cellsV v) := Blk.new _ _ _
 have hne : ¬ w.heap.size = b := by have := h.1.lt; omega
 have HB := Lib.hid (h.alloc (.cells (cellsV v) 68))
 have x0 : (w.alloc (.cells (cellsV v) 68)).cell? ⟨w.heap.size, 0, none⟩ = some (.int .u64 v.bal) := hE.cell 0
 have x1 : (w.alloc (.cells (cellsV v) 68)).cell? ⟨w.heap.size, 1, none⟩ = some (.int .i64 v.st) := hE.cell 1
 obtain ⟨-, -, c2, c3, c4⟩ := HB.out.cells
 have f3 := HB.out.1.frozen 3
 have f4 := HB.out.1.frozen 4
 have v0 := hv.bal.1
 have HE := Lib.hid hE
 have HK := Lib.hid hK
 have HW := Lib.hid hv.2
 obtain ⟨cs, hcs⟩ := named (c v.st)
 rw [hcs] at hc0 hc1 ⊢
 have HCS := Lib.hid hcs
 obtain ⟨n0, hn0⟩ := named (w.heap.size)
 have hnb : ¬ n0 = b := by rw [← hn0]; exact hne
 clear hne
 clear h hE hK hv hl hcs
 refine callsB_of_wp Tryz.func214 rfl ?_
 simp only [Tryz.ntmps214, List.size_toArray, List.length_cons, List.length_nil, Nat.reduceAdd, Nat.reduceSub, Array.replicate_succ, Array.replicate_zero, List.push_toArray, List.append_toArray, List.nil_append, List.cons_append]
 go_wp2
 generalize w.alloc (.cells (cellsV v) 68) = W at *
 rw [hn0] at *
 refine wqT 9 ?_
 simp only [List.take_succ_cons, List.take_zero, List.drop_succ_cons, List.drop_zero]
 repeat (go_big_quiet_step (fail))
 refine wpQuiet_nil ?_
 intro _ hw'
 obtain ⟨n1, hw''⟩ := hw'
 subst hw''
 go_wp2_with fail
 refine (HL.out _).mono ?_
 rintro e w2 ⟨rfl, rfl⟩
 go_wp2_with fail
 refine wqT 9 ?_
 simp only [List.take_succ_cons, List.take_zero, List.drop_succ_cons, List.drop_zero]
 repeat (go_big_quiet_step (fail))
 refine wpQuiet_nil ?_
 intro _ hw'
 obtain ⟨n2, hw''⟩ := hw'
 subst hw''
 go_wp2_with fail
 have HR := Lib.hid ((((HB.out.drewN n1).total (T + v.bal)).drewN n2).active (A + v.bal))
 have HK2 : Hid (Kept (fun i => i = b ∨ i = m) w ((((W.drewN n1).setCell ⟨b, 4, none⟩ (.int .u64 (T + v.bal))).drewN n2).setCell ⟨b, 3, none⟩ (.int .u64 (A + v.bal)))) := Lib.hid ((((HK.out.drewN n1).setCell (.inl (.inl rfl)) _).drewN n2).setCell (.inl (.inl rfl)) _)
 have y1 : ((((W.drewN n1).setCell ⟨b, 4, none⟩ (.int .u64 (T + v.bal))).drewN n2).setCell ⟨b, 3, none⟩ (.int .u64 (A + v.bal))).cell? ⟨n0, 1, none⟩ = some (.int .i64 v.st) := (Blk.far (Blk.drewN (Blk.far (Blk.drewN HE.out n1) hnb _) n2) hnb _).cell 1
 generalize (((W.drewN n1).setCell ⟨b, 4, none⟩ (.int .u64 (T + v.bal))).drewN n2).setCell ⟨b, 3, none⟩ (.int .u64 (A + v.bal)) = W2 at *
 clear x0 x1 c2 c3 c4 f3 f4 HB HK HE W
 obtain ⟨-, -, c2, -, -⟩ := HR.out.cells
 refine wqT 8 ?_
 simp only [List.take_succ_cons, List.take_zero, List.drop_succ_cons, List.drop_zero]
 iterate 6 (go_big_quiet_step (fail))
 refine q_count _ _ rfl rfl (fun w h => by obtain ⟨n, rfl⟩ := h; exact HR.out.2.drewN n) Tryz.underlying3 Tryz.underlying144 zero_int v.st rfl rfl HW.out ?_
 rw [HCS.out]
 simp only [Act.put, List.setIfInBounds_toArray, List.set_cons_zero, List.set_cons_succ]
 repeat (go_big_quiet_step (fail))
 refine wpQuiet_nil ?_
 intro _ hw'
 obtain ⟨n3, hw''⟩ := hw'
 subst hw''
 refine wpList_count rfl _ _ _ rfl (HR.out.2.drewN n3) Tryz.underlying3 Tryz.underlying144 v.st (cs + 1) rfl rfl rfl HW.out ?_
 intro W3 hc3 hg3
 have HZ := Lib.hid (And.intro ((HR.out.drewN n3).counted hc3 hg3) ((HK2.out.drewN n3).trans (Kept.of_grown (S := fun i => i = m) hg3 (fun i hi => by injection hi)) (fun i _ e => .inr e)))
 clear hc3 hg3
 go_wp2
 go_end0
 exact ⟨rfl, HZ.out⟩
set_option maxHeartbeats 800000 in
theorem include_not (b m cap : Nat) (s : Value) (c : Int → Int) (A T : Int) (v : Val) (w : World) (h : RegB w b m s cap c A T) (hv : FitsV v) (hl : liveB v.st = false)
  (hT0 : 0 ≤ T) (hT : T + v.bal ≤ 18446744073709551615) (hc0 : 0 ≤ c v.st) (hc1 : c v.st ≤ 4096) :
  CallsB Tryz.prog 214 #[.pointer (some ⟨b, 0, none⟩), .agg (cellsV v)] w fun e w' => e = .returned (.tuple #[]) ∧ RegB w' b m s cap (upd c v.st (c v.st + 1)) A (T + v.bal) ∧ Kept (fun i => i = b ∨ i = m) w w' := by
 have HL : Hid (∀ w, CallW 103 #[.int .i64 v.st] w (.bool false)) := Lib.hid (fun w => by have := live_any v.st w; rwa [hl] at this)
 have hK : Kept (fun i => i = b ∨ i = m) w (w.alloc (.cells (cellsV v) 68)) := (Kept.refl _ w).alloc _
 have hE : Blk (w.alloc (.cells (cellsV v) 68)) w.heap.size 68 (cellsV v) := Blk.new _ _ _
 have hne : ¬ w.heap.size = b := by have := h.1.lt; omega
 have HB := Lib.hid (h.alloc (.cells (cellsV v) 68))
 have x0 : (w.alloc (.cells (cellsV v) 68)).cell? ⟨w.heap.size, 0, none⟩ = some (.int .u64 v.bal) := hE.cell 0
 have x1 : (w.alloc (.cells (cellsV v) 68)).cell? ⟨w.heap.size, 1, none⟩ = some (.int .i64 v.st) := hE.cell 1
 obtain ⟨-, -, c2, c3, c4⟩ := HB.out.cells
 have f3 := HB.out.1.frozen 3
 have f4 := HB.out.1.frozen 4
 have v0 := hv.bal.1
 have HE := Lib.hid hE
 have HK := Lib.hid hK
 have HW := Lib.hid hv.2
 obtain ⟨cs, hcs⟩ := named (c v.st)
 rw [hcs] at hc0 hc1 ⊢
 have HCS := Lib.hid hcs
 obtain ⟨n0, hn0⟩ := named (w.heap.size)
 have hnb : ¬ n0 = b := by rw [← hn0]; exact hne
 clear hne
 clear h hE hK hv hl hcs
 refine callsB_of_wp Tryz.func214 rfl ?_
 simp only [Tryz.ntmps214, List.size_toArray, List.length_cons, List.length_nil, Nat.reduceAdd, Nat.reduceSub, Array.replicate_succ, Array.replicate_zero, List.push_toArray, List.append_toArray, List.nil_append, List.cons_append]
 go_wp2
 generalize w.alloc (.cells (cellsV v) 68) = W at *
 rw [hn0] at *
 refine wqT 9 ?_
 simp only [List.take_succ_cons, List.take_zero, List.drop_succ_cons, List.drop_zero]
 repeat (go_big_quiet_step (fail))
 refine wpQuiet_nil ?_
 intro _ hw'
 obtain ⟨n1, hw''⟩ := hw'
 subst hw''
 go_wp2_with fail
 refine (HL.out _).mono ?_
 rintro e w2 ⟨rfl, rfl⟩
 go_wp2_with fail
 have HR := Lib.hid ((HB.out.drewN n1).total (T + v.bal))
 have HK2 : Hid (Kept (fun i => i = b ∨ i = m) w ((W.drewN n1).setCell ⟨b, 4, none⟩ (.int .u64 (T + v.bal)))) := Lib.hid ((HK.out.drewN n1).setCell (.inl (.inl rfl)) _)
 have y1 : ((W.drewN n1).setCell ⟨b, 4, none⟩ (.int .u64 (T + v.bal))).cell? ⟨n0, 1, none⟩ = some (.int .i64 v.st) := (Blk.far (Blk.drewN HE.out n1) hnb _).cell 1
 generalize (W.drewN n1).setCell ⟨b, 4, none⟩ (.int .u64 (T + v.bal)) = W2 at *
 clear x0 x1 c2 c3 c4 f3 f4 HB HK HE W
 obtain ⟨-, -, c2, -, -⟩ := HR.out.cells
 refine wqT 8 ?_
 simp only [List.take_succ_cons, List.take_zero, List.drop_succ_cons, List.drop_zero]
 iterate 6 (go_big_quiet_step (fail))
 refine q_count _ _ rfl rfl (fun w h => by obtain ⟨n, rfl⟩ := h; exact HR.out.2.drewN n) Tryz.underlying3 Tryz.underlying144 zero_int v.st rfl rfl HW.out ?_
 rw [HCS.out]
 simp only [Act.put, List.setIfInBounds_toArray, List.set_cons_zero, List.set_cons_succ]
 repeat (go_big_quiet_step (fail))
 refine wpQuiet_nil ?_
 intro _ hw'
 obtain ⟨n3, hw''⟩ := hw'
 subst hw''
 refine wpList_count rfl _ _ _ rfl (HR.out.2.drewN n3) Tryz.underlying3 Tryz.underlying144 v.st (cs + 1) rfl rfl rfl HW.out ?_
 intro W3 hc3 hg3
 have HZ := Lib.hid (And.intro ((HR.out.drewN n3).counted hc3 hg3) ((HK2.out.drewN n3).trans (Kept.of_grown (S := fun i => i = m) hg3 (fun i hi => by injection hi)) (fun i _ e => .inr e)))
 clear hc3 hg3
 go_wp2
 go_end0
 exact ⟨rfl, HZ.out⟩
theorem include_any (b m cap : Nat) (s : Value) (c : Int → Int) (A T : Int) (v : Val) (w : World) (h : RegB w b m s cap c A T) (hv : FitsV v)
  (hA0 : 0 ≤ A) (hA : A ≤ T) (hT : T + v.bal ≤ 18446744073709551615) (hc0 : 0 ≤ c v.st) (hc1 : c v.st ≤ 4096) :
  CallsB Tryz.prog 214 #[.pointer (some ⟨b, 0, none⟩), .agg (cellsV v)] w fun e w' => e = .returned (.tuple #[]) ∧ RegB w' b m s cap (upd c v.st (c v.st + 1)) (A + liveBal v) (T + v.bal) ∧ Kept (fun i => i = b ∨ i = m) w w' := by
 have v0 := hv.bal.1
 cases hl : liveB v.st with
 | true =>
  have e : liveBal v = v.bal := by simp [liveBal, hl]
  rw [e]
  exact include_yes b m cap s c A T v w h hv hl hA0 (by omega) (by omega) hT hc0 hc1
 | false =>
  have e : A + liveBal v = A := by simp [liveBal, hl]
  rw [e]
  exact include_not b m cap s c A T v w h hv hl (by omega) hT hc0 hc1
end
section
set_option maxRecDepth 100000
open Go Go.RowKit Go.Deep
set_option maxHeartbeats 800000 in
theorem exclude_yes (b m cap : Nat) (s : Value) (c : Int → Int) (A T : Int) (v : Val) (w : World) (h : RegB w b m s cap c A T) (hv : FitsV v) (hl : liveB v.st = true)
  (hA0 : v.bal ≤ A) (hA : A ≤ 18446744073709551615) (hT0 : v.bal ≤ T) (hT : T ≤ 18446744073709551615) (hc0 : 1 ≤ c v.st) (hc1 : c v.st ≤ 4096) :
  CallsB Tryz.prog 220 #[.pointer (some ⟨b, 0, none⟩), .agg (cellsV v)] w fun e w' => e = .returned (.tuple #[]) ∧ RegB w' b m s cap (upd c v.st (c v.st - 1)) (A - v.bal) (T - v.bal) ∧ Kept (fun i => i = b ∨ i = m) w w' := by
 have HL : Hid (∀ w, CallW 103 #[.int .i64 v.st] w (.bool true)) := Lib.hid (fun w => by have := live_any v.st w; rwa [hl] at this)
 have hK : Kept (fun i => i = b ∨ i = m) w (w.alloc (.cells (cellsV v) 68)) := (Kept.refl _ w).alloc _
 have hE : Blk (w.alloc (.cells (cellsV v) 68)) w.heap.size 68 (cellsV v) := Blk.new _ _ _
 have hne : ¬ w.heap.size = b := by have := h.1.lt; omega
 have HB := Lib.hid (h.alloc (.cells (cellsV v) 68))
 have x0 : (w.alloc (.cells (cellsV v) 68)).cell? ⟨w.heap.size, 0, none⟩ = some (.int .u64 v.bal) := hE.cell 0
 have x1 : (w.alloc (.cells (cellsV v) 68)).cell? ⟨w.heap.size, 1, none⟩ = some (.int .i64 v.st) := hE.cell 1
 obtain ⟨-, -, c2, c3, c4⟩ := HB.out.cells
 have f3 := HB.out.1.frozen 3
 have f4 := HB.out.1.frozen 4
 have v0 := hv.bal.1
 have HE := Lib.hid hE
 have HK := Lib.hid hK
 have HW := Lib.hid hv.2
 obtain ⟨cs, hcs⟩ := named (c v.st)
 rw [hcs] at hc0 hc1 ⊢
 have HCS := Lib.hid hcs
 obtain ⟨n0, hn0⟩ := named (w.heap.size)
 have hnb : ¬ n0 = b := by rw [← hn0]; exact hne
 clear hne
 clear h hE hK hv hl hcs
 refine callsB_of_wp Tryz.func220 rfl ?_
 simp only [Tryz.ntmps220, List.size_toArray, List.length_cons, List.length_nil, Nat.reduceAdd, Nat.reduceSub, Array.replicate_succ, Array.replicate_zero, List.push_toArray, List.append_toArray, List.nil_append, List.cons_append]
 go_wp2
 generalize w.alloc (.cells (cellsV v) 68) = W at *
 rw [hn0] at *
 refine wqT 9 ?_
 simp only [List.take_succ_cons, List.take_zero, List.drop_succ_cons, List.drop_zero]
 repeat (go_big_quiet_step (fail))
 refine wpQuiet_nil ?_
 intro _ hw'
 obtain ⟨n1, hw''⟩ := hw'
 subst hw''
 go_wp2_with fail
 refine (HL.out _).mono ?_
 rintro e w2 ⟨rfl, rfl⟩
 go_wp2_with fail
 refine wqT 9 ?_
 simp only [List.take_succ_cons, List.take_zero, List.drop_succ_cons, List.drop_zero]
 repeat (go_big_quiet_step (fail))
 refine wpQuiet_nil ?_
 intro _ hw'
 obtain ⟨n2, hw''⟩ := hw'
 subst hw''
 go_wp2_with fail
 have HR := Lib.hid ((((HB.out.drewN n1).total (T - v.bal)).drewN n2).active (A - v.bal))
 have HK2 : Hid (Kept (fun i => i = b ∨ i = m) w ((((W.drewN n1).setCell ⟨b, 4, none⟩ (.int .u64 (T - v.bal))).drewN n2).setCell ⟨b, 3, none⟩ (.int .u64 (A - v.bal)))) := Lib.hid ((((HK.out.drewN n1).setCell (.inl (.inl rfl)) _).drewN n2).setCell (.inl (.inl rfl)) _)
 have y1 : ((((W.drewN n1).setCell ⟨b, 4, none⟩ (.int .u64 (T - v.bal))).drewN n2).setCell ⟨b, 3, none⟩ (.int .u64 (A - v.bal))).cell? ⟨n0, 1, none⟩ = some (.int .i64 v.st) := (Blk.far (Blk.drewN (Blk.far (Blk.drewN HE.out n1) hnb _) n2) hnb _).cell 1
 generalize (((W.drewN n1).setCell ⟨b, 4, none⟩ (.int .u64 (T - v.bal))).drewN n2).setCell ⟨b, 3, none⟩ (.int .u64 (A - v.bal)) = W2 at *
 clear x0 x1 c2 c3 c4 f3 f4 HB HK HE W
 obtain ⟨-, -, c2, -, -⟩ := HR.out.cells
 refine wqT 8 ?_
 simp only [List.take_succ_cons, List.take_zero, List.drop_succ_cons, List.drop_zero]
 iterate 6 (go_big_quiet_step (fail))
 refine q_count _ _ rfl rfl (fun w h => by obtain ⟨n, rfl⟩ := h; exact HR.out.2.drewN n) Tryz.underlying3 Tryz.underlying144 zero_int v.st rfl rfl HW.out ?_
 rw [HCS.out]
 simp only [Act.put, List.setIfInBounds_toArray, List.set_cons_zero, List.set_cons_succ]
 repeat (go_big_quiet_step (fail))
 refine wpQuiet_nil ?_
 intro _ hw'
 obtain ⟨n3, hw''⟩ := hw'
 subst hw''
 refine wpList_count rfl _ _ _ rfl (HR.out.2.drewN n3) Tryz.underlying3 Tryz.underlying144 v.st (cs - 1) rfl rfl rfl HW.out ?_
 intro W3 hc3 hg3
 have HZ := Lib.hid (And.intro ((HR.out.drewN n3).counted hc3 hg3) ((HK2.out.drewN n3).trans (Kept.of_grown (S := fun i => i = m) hg3 (fun i hi => by injection hi)) (fun i _ e => .inr e)))
 have c23 := (c2 : W2.cell? ⟨b, 2, none⟩ = _)
 have z1 : W3.cell? ⟨n0, 1, none⟩ = some (.int .i64 v.st) := (World.cell?_of_block (w := W2) (a := ⟨n0, 1, none⟩) (hg3.block n0 (cell_lt y1) (by intro e; injection e with e; subst e; obtain ⟨es, clock, hm, _⟩ := HR.out.2; simp [World.cell?, hm] at y1))).trans y1
 have HC3 := Lib.hid hc3
 clear hc3 hg3 y1 c2 c23
 have d2 := HZ.out.1.cells.2.2.1
 have hsame : upd c v.st (cs - 1) v.st = cs - 1 := by simp [upd]
 have HS := Lib.hid hsame
 clear hsame
 go_wp2
 simp only [Act.put]
 refine wp_region_class (fun w' => ∃ n, w' = W3.drewN n) (by kernel_rfl) (by kernel_rfl) ⟨1, rfl⟩ ?_
 iterate 6 (go_big_quiet_step (fail))
 refine q_count _ _ rfl rfl (fun w h => by obtain ⟨n, rfl⟩ := h; exact HC3.out.drewN n) Tryz.underlying3 Tryz.underlying144 zero_int v.st rfl rfl HW.out ?_
 rw [HS.out]
 simp only [Act.put, List.setIfInBounds_toArray, List.set_cons_zero, List.set_cons_succ]
 repeat (go_big_quiet_step (fail))
 refine wpQuiet_nil ?_
 intro _ hw'
 obtain ⟨n4, hw''⟩ := hw'
 subst hw''
 by_cases hz : ((cs - 1 : Int) == 0) = true
 ·go_wp2_with fail
  refine wqT 6 ?_
  simp only [List.take_succ_cons, List.take_zero, List.drop_succ_cons, List.drop_zero]
  repeat (go_big_quiet_step (fail))
  refine wpQuiet_nil ?_
  intro _ hw'
  obtain ⟨n5, hw''⟩ := hw'
  subst hw''
  refine wpList_uncount rfl _ _ rfl ((HC3.out.drewN n4).drewN n5) Tryz.underlying3 Tryz.underlying144 v.st rfl rfl HW.out (by rw [HS.out]; simpa using hz) ?_
  intro W4 hc4 hg4
  have HY := Lib.hid (And.intro (RegB.counted ((HZ.out.1.drewN n4).drewN n5) hc4 hg4) (((HZ.out.2.drewN n4).drewN n5).trans (Kept.of_grown (S := fun i => i = m) hg4 (fun i hi => by injection hi)) (fun i _ e => .inr e)))
  clear hc4 hg4
  go_wp2
  go_end0
  exact ⟨rfl, HY.out⟩
 ·have hz : ((cs - 1 : Int) == 0) = false := by simpa using hz
  go_wp2_with fail
  go_end0
  exact ⟨rfl, HZ.out.1.drewN n4, HZ.out.2.drewN n4⟩
set_option maxHeartbeats 800000 in
theorem exclude_not (b m cap : Nat) (s : Value) (c : Int → Int) (A T : Int) (v : Val) (w : World) (h : RegB w b m s cap c A T) (hv : FitsV v) (hl : liveB v.st = false)
  (hT0 : v.bal ≤ T) (hT : T ≤ 18446744073709551615) (hc0 : 1 ≤ c v.st) (hc1 : c v.st ≤ 4096) :
  CallsB Tryz.prog 220 #[.pointer (some ⟨b, 0, none⟩), .agg (cellsV v)] w fun e w' => e = .returned (.tuple #[]) ∧ RegB w' b m s cap (upd c v.st (c v.st - 1)) A (T - v.bal) ∧ Kept (fun i => i = b ∨ i = m) w w' := by
 have HL : Hid (∀ w, CallW 103 #[.int .i64 v.st] w (.bool false)) := Lib.hid (fun w => by have := live_any v.st w; rwa [hl] at this)
 have hK : Kept (fun i => i = b ∨ i = m) w (w.alloc (.cells (cellsV v) 68)) := (Kept.refl _ w).alloc _
 have hE : Blk (w.alloc (.cells (cellsV v) 68)) w.heap.size 68 (cellsV v) := Blk.new _ _ _
 have hne : ¬ w.heap.size = b := by have := h.1.lt; omega
 have HB := Lib.hid (h.alloc (.cells (cellsV v) 68))
 have x0 : (w.alloc (.cells (cellsV v) 68)).cell? ⟨w.heap.size, 0, none⟩ = some (.int .u64 v.bal) := hE.cell 0
 have x1 : (w.alloc (.cells (cellsV v) 68)).cell? ⟨w.heap.size, 1, none⟩ = some (.int .i64 v.st) := hE.cell 1
 obtain ⟨-, -, c2, c3, c4⟩ := HB.out.cells
 have f3 := HB.out.1.frozen 3
 have f4 := HB.out.1.frozen 4
 have v0 := hv.bal.1
 have HE := Lib.hid hE
 have HK := Lib.hid hK
 have HW := Lib.hid hv.2
 obtain ⟨cs, hcs⟩ := named (c v.st)
 rw [hcs] at hc0 hc1 ⊢
 have HCS := Lib.hid hcs
 obtain ⟨n0, hn0⟩ := named (w.heap.size)
 have hnb : ¬ n0 = b := by rw [← hn0]; exact hne
 clear hne
 clear h hE hK hv hl hcs
 refine callsB_of_wp Tryz.func220 rfl ?_
 simp only [Tryz.ntmps220, List.size_toArray, List.length_cons, List.length_nil, Nat.reduceAdd, Nat.reduceSub, Array.replicate_succ, Array.replicate_zero, List.push_toArray, List.append_toArray, List.nil_append, List.cons_append]
 go_wp2
 generalize w.alloc (.cells (cellsV v) 68) = W at *
 rw [hn0] at *
 refine wqT 9 ?_
 simp only [List.take_succ_cons, List.take_zero, List.drop_succ_cons, List.drop_zero]
 repeat (go_big_quiet_step (fail))
 refine wpQuiet_nil ?_
 intro _ hw'
 obtain ⟨n1, hw''⟩ := hw'
 subst hw''
 go_wp2_with fail
 refine (HL.out _).mono ?_
 rintro e w2 ⟨rfl, rfl⟩
 go_wp2_with fail
 have HR := Lib.hid ((HB.out.drewN n1).total (T - v.bal))
 have HK2 : Hid (Kept (fun i => i = b ∨ i = m) w ((W.drewN n1).setCell ⟨b, 4, none⟩ (.int .u64 (T - v.bal)))) := Lib.hid ((HK.out.drewN n1).setCell (.inl (.inl rfl)) _)
 have y1 : ((W.drewN n1).setCell ⟨b, 4, none⟩ (.int .u64 (T - v.bal))).cell? ⟨n0, 1, none⟩ = some (.int .i64 v.st) := (Blk.far (Blk.drewN HE.out n1) hnb _).cell 1
 generalize (W.drewN n1).setCell ⟨b, 4, none⟩ (.int .u64 (T - v.bal)) = W2 at *
 clear x0 x1 c2 c3 c4 f3 f4 HB HK HE W
 obtain ⟨-, -, c2, -, -⟩ := HR.out.cells
 refine wqT 8 ?_
 simp only [List.take_succ_cons, List.take_zero, List.drop_succ_cons, List.drop_zero]
 iterate 6 (go_big_quiet_step (fail))
 refine q_count _ _ rfl rfl (fun w h => by obtain ⟨n, rfl⟩ := h; exact HR.out.2.drewN n) Tryz.underlying3 Tryz.underlying144 zero_int v.st rfl rfl HW.out ?_
 rw [HCS.out]
 simp only [Act.put, List.setIfInBounds_toArray, List.set_cons_zero, List.set_cons_succ]
 repeat (go_big_quiet_step (fail))
 refine wpQuiet_nil ?_
 intro _ hw'
 obtain ⟨n3, hw''⟩ := hw'
 subst hw''
 refine wpList_count rfl _ _ _ rfl (HR.out.2.drewN n3) Tryz.underlying3 Tryz.underlying144 v.st (cs - 1) rfl rfl rfl HW.out ?_
 intro W3 hc3 hg3
 have HZ := Lib.hid (And.intro ((HR.out.drewN n3).counted hc3 hg3) ((HK2.out.drewN n3).trans (Kept.of_grown (S := fun i => i = m) hg3 (fun i hi => by injection hi)) (fun i _ e => .inr e)))
 have c23 := (c2 : W2.cell? ⟨b, 2, none⟩ = _)
 have z1 : W3.cell? ⟨n0, 1, none⟩ = some (.int .i64 v.st) := (World.cell?_of_block (w := W2) (a := ⟨n0, 1, none⟩) (hg3.block n0 (cell_lt y1) (by intro e; injection e with e; subst e; obtain ⟨es, clock, hm, _⟩ := HR.out.2; simp [World.cell?, hm] at y1))).trans y1
 have HC3 := Lib.hid hc3
 clear hc3 hg3 y1 c2 c23
 have d2 := HZ.out.1.cells.2.2.1
 have hsame : upd c v.st (cs - 1) v.st = cs - 1 := by simp [upd]
 have HS := Lib.hid hsame
 clear hsame
 go_wp2
 simp only [Act.put]
 refine wp_region_class (fun w' => ∃ n, w' = W3.drewN n) (by kernel_rfl) (by kernel_rfl) ⟨1, rfl⟩ ?_
 iterate 6 (go_big_quiet_step (fail))
 refine q_count _ _ rfl rfl (fun w h => by obtain ⟨n, rfl⟩ := h; exact HC3.out.drewN n) Tryz.underlying3 Tryz.underlying144 zero_int v.st rfl rfl HW.out ?_
 rw [HS.out]
 simp only [Act.put, List.setIfInBounds_toArray, List.set_cons_zero, List.set_cons_succ]
 repeat (go_big_quiet_step (fail))
 refine wpQuiet_nil ?_
 intro _ hw'
 obtain ⟨n4, hw''⟩ := hw'
 subst hw''
 by_cases hz : ((cs - 1 : Int) == 0) = true
 ·go_wp2_with fail
  refine wqT 6 ?_
  simp only [List.take_succ_cons, List.take_zero, List.drop_succ_cons, List.drop_zero]
  repeat (go_big_quiet_step (fail))
  refine wpQuiet_nil ?_
  intro _ hw'
  obtain ⟨n5, hw''⟩ := hw'
  subst hw''
  refine wpList_uncount rfl _ _ rfl ((HC3.out.drewN n4).drewN n5) Tryz.underlying3 Tryz.underlying144 v.st rfl rfl HW.out (by rw [HS.out]; simpa using hz) ?_
  intro W4 hc4 hg4
  have HY := Lib.hid (And.intro (RegB.counted ((HZ.out.1.drewN n4).drewN n5) hc4 hg4) (((HZ.out.2.drewN n4).drewN n5).trans (Kept.of_grown (S := fun i => i = m) hg4 (fun i hi => by injection hi)) (fun i _ e => .inr e)))
  clear hc4 hg4
  go_wp2
  go_end0
  exact ⟨rfl, HY.out⟩
 ·have hz : ((cs - 1 : Int) == 0) = false := by simpa using hz
  go_wp2_with fail
  go_end0
  exact ⟨rfl, HZ.out.1.drewN n4, HZ.out.2.drewN n4⟩
theorem exclude_any (b m cap : Nat) (s : Value) (c : Int → Int) (A T : Int) (v : Val) (w : World) (h : RegB w b m s cap c A T) (hv : FitsV v)
  (hA0 : liveBal v ≤ A) (hA : A ≤ T) (hT0 : v.bal ≤ T) (hT : T ≤ 18446744073709551615) (hc0 : 1 ≤ c v.st) (hc1 : c v.st ≤ 4096) :
  CallsB Tryz.prog 220 #[.pointer (some ⟨b, 0, none⟩), .agg (cellsV v)] w fun e w' => e = .returned (.tuple #[]) ∧ RegB w' b m s cap (upd c v.st (c v.st - 1)) (A - liveBal v) (T - v.bal) ∧ Kept (fun i => i = b ∨ i = m) w w' := by
 have v0 := hv.bal.1
 cases hl : liveB v.st with
 | true =>
  have e : liveBal v = v.bal := by simp [liveBal, hl]
  rw [e] at hA0 ⊢
  exact exclude_yes b m cap s c A T v w h hv hl hA0 (by omega) hT0 hT hc0 hc1
 | false =>
  have e : A - liveBal v = A := by simp [liveBal, hl]
  rw [e]
  exact exclude_not b m cap s c A T v w h hv hl hT0 hT hc0 hc1
end
section
set_option maxRecDepth 100000
open Go Go.RowKit Go.Deep
theorem wpList_build_val {P : Program} {ops : Array Oper} {rest : List Oper} {o : Oper} {a : Act} {w : World} {Q : Exit → Act → World → Prop} (hg : o.guard = none) (t : TypeId) (parts : Array (Nat × Operand)) (ho : o.op = .build t parts) (v : Val)
  (hf : P.built t (parts.map fun (i, x) => (i, a.eval x)).toList = some (cellsV v)) (h : wpList P ops Q rest (a.put o.dst (.agg (cellsV v))) w) : wpList P ops Q (o :: rest) a w :=
 wpList_build hg t parts ho (by rw [hf]; rfl) (by rw [hf]; exact h)
theorem get_no (p : Option Addr) (i : Int) (w : World) (h : ∀ w', Below w.heap.size w w' → Calls Tryz.prog 176 #[.pointer p, .int .i64 i] w' fun e w'' => e = .returned (.bool false) ∧ w' = w'') :
  CallB 126 #[.pointer p, .int .i64 i] w (.tuple #[.agg (cellsV val0), .bool false]) := by
 have H := Lib.hid (h (w.alloc (.cells (cellsV val0) 68)) ((Below.refl _ _).alloc (Nat.le_refl _) _))
 clear h
 go_enter Tryz.func126, Tryz.ntmps126
 go_wp2_with fail
 refine H.out.mono ?_
 rintro e w' ⟨rfl, rfl⟩
 go_wp2_with (first | (refine wpList_build_val rfl 68 _ rfl val0 (by kernel_rfl) ?_) | (refine wsr w.heap.size (cellsV val0) 68 (heap_alloc_new w _) infoV (cellsV_one _) ?_; rw [World.setRow_alloc_new]))
 exact bodyPost_ret (v := .tuple #[.agg (cellsV val0), .bool false]) (results_cell_row2 (fn := Tryz.f126) rfl _ _ w.heap.size 68 _ (0, 0) _ rfl (heap_alloc_new w _) Tryz.underlying68 rfl infoV) rfl ⟨rfl, (Below.refl _ _).alloc (Nat.le_refl _) _⟩
theorem get_in (b n cp i g off : Nat) (v : Val) (w : World) (h : w.cell? ⟨b, 1, none⟩ = some (.slice (some ⟨g, off, none⟩) n cp)) (hi : i < n) (hr : w.rangeAt g (off + i * 7) v.row) :
  CallB 126 #[.pointer (some ⟨b, 0, none⟩), .int .i64 i] w (.tuple #[.agg (cellsV v), .bool true]) := by
 have hB := (Below.refl w.heap.size w).alloc (Nat.le_refl _) (.cells (cellsV val0) 68)
 have h1 : (w.alloc (.cells (cellsV val0) 68)).cell? ⟨b, 1, none⟩ = some (.slice (some ⟨g, off, none⟩) n cp) := cell_alloc_some _ h
 have hr1 : (w.alloc (.cells (cellsV val0) 68)).rangeAt g (off + i * 7) v.row := fun j u hu => cell_alloc_some _ (hr j u hu)
 have H := Lib.hid (has_in b n cp i (some ⟨g, off, none⟩) _ h1 hi)
 have HR := Lib.hid hr1
 have hi1 : ¬ (i : Int) < 0 := by omega
 have hi2 : ¬ (n : Int) ≤ (i : Int) := by omega
 have hi3 : (i : Int) < (n : Int) := by omega
 clear h hr hr1
 go_enter Tryz.func126, Tryz.ntmps126
 go_wp2_with fail
 refine H.out.mono ?_
 rintro e w' ⟨rfl, rfl⟩
 go_wp2_with (first | (refine wpList_load_val rfl 68 _ rfl g (off + i * 7) rfl v _ HR.out Tryz.underlying68 rfl infoV ?_) | (refine wsr w.heap.size (cellsV v) 68 (heap_alloc_new w _) infoV (cellsV_one v) ?_; rw [World.setRow_alloc_new]))
 exact bodyPost_ret (v := .tuple #[.agg (cellsV v), .bool true]) (results_cell_row2 (fn := Tryz.f126) rfl _ _ w.heap.size 68 _ (0, 0) _ rfl (heap_alloc_new w _) Tryz.underlying68 rfl infoV) rfl ⟨rfl, (Below.refl _ _).alloc (Nat.le_refl _) _⟩
end
section
set_option maxRecDepth 100000
open Go Go.RowKit Go.Deep
theorem val_info : (Tryz.prog.info? 68).map (fun i => (i.zero, i.size)) = some (some (.agg (cellsV val0)), 7) := by kernel_rfl
section
variable {P : Program}
theorem run_buildSlice_val (w : World) (T e : TypeId) (i : TypeInfo) (z : Value) (v : Val) (ht : P.underlying T = some (.slice e)) (hi : P.info? e = some i) (hz : i.zero = some z) (hs : i.size = 7) :
  (Instr.buildSlice T 1 #[(0, .agg (cellsV v))]).run P w = .ok (.slice (some ⟨w.heap.size, 0, none⟩) 1 1) (w.alloc (.cells (cellsV v) e)) := by
 simp [Instr.buildSlice, run_underlying ht, sizeOf, typeInfo, hi, hs, zeroValue, hz, Instr.fill, newRow, Value.cells, cellsV, Val.row]
 simp [go_sem]
theorem wp_buildSlice_val {o : Oper} {a : Act} {w : World} {K : Act → World → Prop} {Q : Exit → Act → World → Prop} (T e : TypeId) (x : Operand) (z : Value) (v : Val) (ho : o.op = .buildSlice T 1 #[(0, x)]) (hx : a.eval x = .agg (cellsV v)) (ht : P.underlying T = some (.slice e)) (hI : (P.info? e).map (fun i => (i.zero, i.size)) = some (some z, 7))
  (h : K (a.put o.dst (.slice (some ⟨w.heap.size, 0, none⟩) 1 1)) (w.alloc (.cells (cellsV v) e))) : o.wp P a w K Q := by
 obtain ⟨i, hi, hz, hs⟩ := info_of hI
 unfold Oper.wp execOp
 simp only [ho, List.map_toArray, List.map_cons, List.map_nil, hx, Sem.run_bind, run_buildSlice_val w T e i z v ht hi hz hs, Result.andThen_ok, Sem.run_pure]
 exact h
end
theorem new_cells (w : World) (v : Val) (t : TypeId) : ∀ j u, v.row[j]? = some u → (w.alloc (.cells (cellsV v) t)).cell? ((⟨w.heap.size, 0, none⟩ : Addr).add j) = some u := fun j u hu => by
 rw [add_plain]
 have := (Blk.new w t (cellsV v)).range j u hu
 exact this
theorem val_app : ∃ i, Tryz.prog.info? 68 = some i ∧ i.zero = some (.agg (cellsV val0)) ∧ i.size = 7 ∧ i.bytes = 56 := by
 have h : (Tryz.prog.info? 68).map (fun i => (i.zero, i.size, i.bytes)) = some (some (.agg (cellsV val0)), 7, 56) := by kernel_rfl
 cases hi : Tryz.prog.info? 68 with
 | none => rw [hi] at h; cases h
 | some i =>
  rw [hi] at h
  simp at h
  exact ⟨i, rfl, h.1, h.2.1, h.2.2⟩
end
section
set_option maxRecDepth 100000
open Go Go.RowKit Go.Deep
theorem addv_full (b cap cp : Nat) (a : Option Addr) (v : Val) (w : World) (h0 : w.cell? ⟨b, 0, none⟩ = some (.int .i64 cap)) (h1 : w.cell? ⟨b, 1, none⟩ = some (.slice a cap cp)) :
  CallB 169 #[.pointer (some ⟨b, 0, none⟩), .agg (cellsV v)] w (.tuple #[.int .i64 (-1), .int .i64 5]) := by
 have x0 := cell_alloc_some (.cells (cellsV v) 68) h0
 have x1 := cell_alloc_some (.cells (cellsV v) 68) h1
 clear h0 h1
 go_enter_defers Tryz.func169, Tryz.ntmps169
 go_wp2
 exact ⟨_, results_tmp2 rfl _ _ _, rfl, (Below.refl _ _).alloc (Nat.le_refl _) _⟩
set_option maxHeartbeats 800000 in
theorem addv_over (b cap cp n : Nat) (a : Option Addr) (T : Int) (v : Val) (w : World) (h0 : w.cell? ⟨b, 0, none⟩ = some (.int .i64 cap)) (h1 : w.cell? ⟨b, 1, none⟩ = some (.slice a n cp)) (h4 : w.cell? ⟨b, 4, none⟩ = some (.int .u64 T))
  (hn : n < cap) (hc : cap ≤ 4096) (hv : FitsV v) (hT0 : 0 ≤ T) (hT1 : T ≤ 18446744073709551615) (hT : 18446744073709551615 < T + v.bal) :
  CallB 169 #[.pointer (some ⟨b, 0, none⟩), .agg (cellsV v)] w (.tuple #[.int .i64 (-1), .int .i64 10]) := by
 have x0 := cell_alloc_some (.cells (cellsV v) 68) h0
 have x1 := cell_alloc_some (.cells (cellsV v) 68) h1
 have x4 := cell_alloc_some (.cells (cellsV v) 68) h4
 have hB : Below w.heap.size w (w.alloc (.cells (cellsV v) 68)) := (Below.refl _ _).alloc (Nat.le_refl _) _
 have y0 : (w.alloc (.cells (cellsV v) 68)).cell? ⟨w.heap.size, 0, none⟩ = some (.int .u64 v.bal) := (Blk.new w 68 (cellsV v)).cell 0
 obtain ⟨v0, v1⟩ := hv.bal
 have hnc : ((n : Int) == (cap : Int)) = false := by simp; omega
 have X4 := Lib.hid x4
 have Y0 := Lib.hid y0
 have HB := Lib.hid hB
 clear h0 h1 h4 x4 y0 hB hv
 go_enter_defers Tryz.func169, Tryz.ntmps169
 go_wp2
 generalize w.alloc (.cells (cellsV v) 68) = W at *
 refine wrF (fun _ => True) 12 12 [] trivial ?_
 refine wpQuiet_nil ?_
 refine headF_takes (fun w' => w'.cell? ⟨b, 4, none⟩ = some (.int .u64 T) ∧ w'.cell? ⟨w.heap.size, 0, none⟩ = some (.int .u64 v.bal)) (m := 12) (f := 6) [0, 1, 2, 3, 4, 5] (fun _ _ => trivial) (by kernel_rfl) ⟨X4.out, Y0.out⟩ ?_
 simp only [List.filterMap_cons, List.filterMap_nil, List.getElem?_toArray, List.getElem?_cons_zero, List.getElem?_cons_succ]
 show wpQuiet _ _ _ _ [_, _, _, _, _, _] _
 iterate 3 (go_big_quiet_step ((intros; rfl)))
 refine qce 23 _ (.int .u64 T) (fun w h => h.1) ?_
 simp only [Act.put, List.setIfInBounds_toArray, List.set_cons_zero, List.set_cons_succ]
 iterate 1 (go_big_quiet_step ((intros; rfl)))
 refine qce 23 _ (.int .u64 v.bal) (fun w h => h.2) ?_
 simp only [Act.put, List.setIfInBounds_toArray, List.set_cons_zero, List.set_cons_succ]
 refine wpQuiet_nil ?_
 refine hfO (i := 6) ?_
 refine wpOp_at rfl rfl (wp_buildSlice_two 121 23 (.tmp 26) (.tmp 28) _ _ (.int .u64 T) (.int .u64 v.bal) rfl rfl rfl Tryz.underlying121 u64_info rfl rfl rfl ⟨⟨cell_alloc_some _ X4.out, cell_alloc_some _ Y0.out⟩, ?_⟩)
 refine hfO (i := 7) ?_
 simp only [Act.put, List.getElem_toArray, List.getElem_cons_zero, List.getElem_cons_succ, List.setIfInBounds_toArray, List.set_cons_zero, List.set_cons_succ]
 refine wcA #[.slice (some ⟨W.drew.heap.size, 0, none⟩) 2 2] Tryz.call101 ((add2_not W.drew.heap.size T v.bal _ (Blk.new W.drew _ _) hT0 hT1 v0 v1 (by omega)).mono ?_)
 rintro e w2 ⟨rfl, hw2⟩
 have B2 : Below w.heap.size w w2 := hw2 ▸ HB.out.drew.alloc HB.out.size _
 have S2 : w2.cell? ⟨b, 4, none⟩ = some (.int .u64 T) ∧ w2.cell? ⟨w.heap.size, 0, none⟩ = some (.int .u64 v.bal) := by rw [← hw2]; exact ⟨cell_alloc_some _ X4.out, cell_alloc_some _ Y0.out⟩
 refine ⟨_, rfl, S2, ?_⟩
 clear hw2
 simp only [Act.put, List.getElem_toArray, List.getElem_cons_zero, List.getElem_cons_succ, List.setIfInBounds_toArray, List.set_cons_zero, List.set_cons_succ]
 refine hfT (fun w' => w'.cell? ⟨b, 4, none⟩ = some (.int .u64 T) ∧ w'.cell? ⟨w.heap.size, 0, none⟩ = some (.int .u64 v.bal)) (m := 4) (f := 0) [8, 9, 10, 11] S2 ?_
 simp only [List.filterMap_cons, List.filterMap_nil, List.getElem?_toArray, List.getElem?_cons_zero, List.getElem?_cons_succ]
 show wpQuiet _ _ _ _ [_, _, _, _] _
 iterate 4 (go_big_quiet_step ((intros; rfl)))
 refine wpQuiet_nil ?_
 show Region.seqB _ _ _ _ _ = true ∧ _
 refine ⟨by kernel_rfl, ?_⟩
 simp only [Act.put, List.getElem_toArray, List.getElem_cons_zero, List.getElem_cons_succ, List.setIfInBounds_toArray, List.set_cons_zero, List.set_cons_succ, List.drop_succ_cons, List.drop_zero]
 go_wp2
 refine NoPanic.normal ?_
 go_wp2
 exact ⟨_, results_tmp2 rfl _ _ _, rfl, B2⟩
set_option maxHeartbeats 1600000 in
theorem addv_ok (b cap m : Nat) (s : Value) (l : List Val) (v : Val) (w : World) (h : RegB w b m s cap (countOf l) (activeOf l) (totalOf l)) (ho : w.ownsRow 0 68 7 s l.length (flat l))
  (hn : l.length < cap) (hc : cap ≤ 4096) (hf : ∀ x ∈ l, FitsV x) (hv : FitsV v) (hT : totalOf l + v.bal ≤ 18446744073709551615) :
  Calls Tryz.prog 169 #[.pointer (some ⟨b, 0, none⟩), .agg (cellsV v)] w fun e w' => e = .returned (.tuple #[.int .i64 l.length, .int .i64 0]) ∧ ∃ s', RegB w' b m s' cap (countOf (l ++ [v])) (activeOf (l ++ [v])) (totalOf (l ++ [v])) ∧ w'.ownsRow 0 68 7 s' (l.length + 1) (flat (l ++ [v])) ∧
   (s'.ownBlock = s.ownBlock ∨ ∃ q, s'.ownBlock = some q ∧ w.heap.size ≤ q) ∧ Kept (fun i => i = b ∨ i = m ∨ s.ownBlock = some i) w w' := by
 obtain ⟨a, cp, rfl, hcp, hcp2⟩ := owns_slice ho
 obtain ⟨hA0, hA⟩ := active_le hf
 have hT0 := total_nonneg hf
 have hcb := count_bounds l v.st
 obtain ⟨v0, v1⟩ := hv.bal
 have HB := Lib.hid (h.alloc (.cells (cellsV v) 68))
 have HO := Lib.hid (ho.alloc (.cells (cellsV v) 68))
 have HLT : Hid (∀ i, (Value.slice a l.length cp).ownBlock = some i → i < w.heap.size) := Lib.hid (fun i hi => (ho.lt i hi).2)
 have hbl := h.1.lt
 have hml := h.2.lt
 have HNE : Hid ((Value.slice a l.length cp).ownBlock ≠ some b ∧ (Value.slice a l.length cp).ownBlock ≠ some m) := Lib.hid (by
  rcases ho.2 with ⟨h1, _⟩ | ⟨g, cp', cur, h1, _, h3, _⟩
  ·rw [h1]; simp [Value.ownBlock]
  ·rw [h1]
   simp only [Value.ownBlock, ne_eq, Option.some.injEq]
   refine ⟨?_, ?_⟩
   ·rintro rfl; have := h.1; unfold Blk at this; rw [h3] at this; injection this with this; injection this with _ h9; exact absurd h9 (by decide)
   ·rintro rfl; obtain ⟨es, clock, h9, _⟩ := h.2; rw [h3] at h9; cases h9)
 have HE : Hid (Blk (w.alloc (.cells (cellsV v) 68)) w.heap.size 68 (cellsV v)) := Lib.hid (Blk.new _ _ _)
 have HK : Hid (Kept (fun i => i = b ∨ i = m ∨ (Value.slice a l.length cp).ownBlock = some i) w (w.alloc (.cells (cellsV v) 68))) := Lib.hid ((Kept.refl _ w).alloc _)
 obtain ⟨x0, x1, x2, x3, x4⟩ := HB.out.cells
 have X1 := Lib.hid x1
 have X4 := Lib.hid x4
 have Y0 := Lib.hid (HE.out.cell 0)
 have hnc : ((l.length : Int) == (cap : Int)) = false := by simp; omega
 have HV := Lib.hid hv
 have hw1 : w.heap.size ≤ (w.alloc (.cells (cellsV v) 68)).heap.size := by simp
 obtain ⟨n0, hn0⟩ := named (w.heap.size)
 rw [hn0] at hbl hml hw1 HLT HE Y0
 clear h ho x2 x3 x4 hf hv
 go_enter_defers Tryz.func169, Tryz.ntmps169
 go_wp2
 generalize w.alloc (.cells (cellsV v) 68) = W at *
 have hWn : n0 < W.heap.size := HE.out.lt
 obtain ⟨T, hTe⟩ := named (totalOf l)
 rw [hTe] at X4 hT hT0 hA
 refine wrF (fun _ => True) 12 12 [] trivial ?_
 refine wpQuiet_nil ?_
 refine headF_takes (fun w' => w'.cell? ⟨b, 4, none⟩ = some (.int .u64 T) ∧ w'.cell? ⟨n0, 0, none⟩ = some (.int .u64 v.bal)) (m := 12) (f := 6) [0, 1, 2, 3, 4, 5] (fun _ _ => trivial) (by kernel_rfl) ⟨X4.out, Y0.out⟩ ?_
 simp only [List.filterMap_cons, List.filterMap_nil, List.getElem?_toArray, List.getElem?_cons_zero, List.getElem?_cons_succ]
 show wpQuiet _ _ _ _ [_, _, _, _, _, _] _
 iterate 3 (go_big_quiet_step ((intros; rfl)))
 refine qce 23 _ (.int .u64 T) (fun w h => h.1) ?_
 simp only [Act.put, List.setIfInBounds_toArray, List.set_cons_zero, List.set_cons_succ]
 iterate 1 (go_big_quiet_step ((intros; rfl)))
 refine qce 23 _ (.int .u64 v.bal) (fun w h => h.2) ?_
 simp only [Act.put, List.setIfInBounds_toArray, List.set_cons_zero, List.set_cons_succ]
 refine wpQuiet_nil ?_
 refine hfO (i := 6) ?_
 refine wpOp_at rfl rfl (wp_buildSlice_two 121 23 (.tmp 26) (.tmp 28) _ _ (.int .u64 T) (.int .u64 v.bal) rfl rfl rfl Tryz.underlying121 u64_info rfl rfl rfl ⟨⟨cell_alloc_some _ X4.out, cell_alloc_some _ Y0.out⟩, ?_⟩)
 refine hfO (i := 7) ?_
 simp only [Act.put, List.getElem_toArray, List.getElem_cons_zero, List.getElem_cons_succ, List.setIfInBounds_toArray, List.set_cons_zero, List.set_cons_succ]
 refine wcA #[.slice (some ⟨W.drew.heap.size, 0, none⟩) 2 2] Tryz.call101 ((add2_yes W.drew.heap.size T v.bal _ (Blk.new W.drew _ _) hT0 v0 hT).mono ?_)
 rintro e w2 ⟨rfl, hw2⟩
 have S2 : w2.cell? ⟨b, 4, none⟩ = some (.int .u64 T) ∧ w2.cell? ⟨n0, 0, none⟩ = some (.int .u64 v.bal) := by rw [← hw2]; exact ⟨cell_alloc_some _ X4.out, cell_alloc_some _ Y0.out⟩
 refine ⟨_, rfl, S2, ?_⟩
 have H2 : Hid (RegB w2 b m (.slice a l.length cp) cap (countOf l) (activeOf l) T ∧ w2.ownsRow 0 68 7 (.slice a l.length cp) l.length (flat l) ∧ Blk w2 n0 68 (cellsV v) ∧ Kept (fun i => i = b ∨ i = m ∨ (Value.slice a l.length cp).ownBlock = some i) w w2 ∧ W.heap.size ≤ w2.heap.size) :=
  Lib.hid (hw2 ▸ ⟨by rw [← hTe]; exact (HB.out.drewN 1).alloc _, World.ownsRow.alloc (w := W.drew) HO.out _, Blk.alloc (Blk.drew HE.out) _, (HK.out.drew).alloc _, by simp⟩)
 clear hw2 HB HO HE HK X1 X4 Y0 x0 x1
 simp only [Act.put, List.getElem_toArray, List.getElem_cons_zero, List.getElem_cons_succ, List.setIfInBounds_toArray, List.set_cons_zero, List.set_cons_succ]
 refine hfT (fun w' => w'.cell? ⟨b, 4, none⟩ = some (.int .u64 T) ∧ w'.cell? ⟨n0, 0, none⟩ = some (.int .u64 v.bal)) (m := 4) (f := 0) [8, 9, 10, 11] S2 ?_
 simp only [List.filterMap_cons, List.filterMap_nil, List.getElem?_toArray, List.getElem?_cons_zero, List.getElem?_cons_succ]
 show wpQuiet _ _ _ _ [_, _, _, _] _
 iterate 4 (go_big_quiet_step ((intros; rfl)))
 refine wpQuiet_nil ?_
 show Region.seqB _ _ _ _ _ = true ∧ _
 refine ⟨by kernel_rfl, ?_⟩
 simp only [Act.put, List.getElem_toArray, List.getElem_cons_zero, List.getElem_cons_succ, List.setIfInBounds_toArray, List.set_cons_zero, List.set_cons_succ, List.drop_succ_cons, List.drop_zero]
 go_wp2
 refine NoPanic.normal ?_
 go_wp2_with (refine wpList_load_val rfl 68 _ rfl n0 0 rfl v _ H2.out.2.2.1.range Tryz.underlying68 rfl infoV ?_)
 have S3 := H2.out.1.cells.2.1
 have S4 := H2.out.2.2.1.range
 have hle : w2.heap.size ≤ w2.drew.heap.size := Nat.le_refl _
 refine wrF (fun _ => True) 10 10 [] trivial ?_
 refine wpQuiet_nil ?_
 refine headF_takes (fun w' => w'.cell? ⟨b, 1, none⟩ = some (.slice a l.length cp) ∧ w'.rangeAt n0 0 v.row) (m := 10) (f := 4) [0, 1, 2, 3, 4, 5] (fun _ _ => trivial) (by kernel_rfl) ⟨S3, S4⟩ ?_
 simp only [List.filterMap_cons, List.filterMap_nil, List.getElem?_toArray, List.getElem?_cons_zero, List.getElem?_cons_succ]
 show wpQuiet _ _ _ _ [_, _, _, _, _, _] _
 iterate 4 (go_big_quiet_step ((intros; rfl)))
 refine qce 22 _ (.slice a l.length cp) (fun w h => h.1) ?_
 simp only [Act.put, List.setIfInBounds_toArray, List.set_cons_zero, List.set_cons_succ]
 refine q_load_val 68 (.tmp 3) n0 0 v _ rfl rfl rfl (fun w h => h.2) Tryz.underlying68 rfl infoV ?_
 simp only [Act.put, List.setIfInBounds_toArray, List.set_cons_zero, List.set_cons_succ]
 refine wpQuiet_nil ?_
 refine hfO (i := 6) ?_
 refine wpOp_at rfl rfl (wp_buildSlice_val 22 68 (.tmp 42) _ v rfl rfl Tryz.underlying22 val_info ⟨⟨cell_alloc_some _ S3, fun j u hu => cell_alloc_some _ (S4 j u hu)⟩, ?_⟩)
 refine hfO (i := 7) ?_
 simp only [Act.put, List.getElem_toArray, List.getElem_cons_zero, List.getElem_cons_succ, List.setIfInBounds_toArray, List.set_cons_zero, List.set_cons_succ]
 obtain ⟨i, hi, hz, hs7, hby⟩ := val_app
 refine wpOp_at rfl rfl (wp_append_src _ (.tmp 41) (.tmp 43) 22 rfl 0 68 i _ 7 56 Tryz.underlying22 hi hz hs7 hby (cellsV_size _) (by omega) (.slice a l.length cp) l.length (flat l) rfl (World.ownsRow.alloc (w := w2.drew) H2.out.2.1 _)
  (some ⟨w2.drew.heap.size, 0, none⟩) 1 1 v.row rfl rfl (fun _ => ⟨_, rfl, new_cells _ _ _⟩) (row_one v) (by unfold maxLen; omega) (by omega) (by omega) ?_)
 intro s' w3 ho3 hg3 hs3
 obtain ⟨a', cp', rfl, -, -⟩ := owns_slice ho3
 have H3 : Hid (RegB w3 b m (.slice a l.length cp) cap (countOf l) (activeOf l) T ∧ w3.ownsRow 0 68 7 (.slice a' (l.length + 1) cp') (l.length + 1) (flat (l ++ [v])) ∧ Kept (fun i => i = b ∨ i = m ∨ (Value.slice a l.length cp).ownBlock = some i) w w3 ∧ ((Value.slice a' (l.length + 1) cp').ownBlock = (Value.slice a l.length cp).ownBlock ∨ ∃ q, (Value.slice a' (l.length + 1) cp').ownBlock = some q ∧ n0 ≤ q) ∧ (Value.slice a' (l.length + 1) cp').ownBlock ≠ some b ∧ (Value.slice a' (l.length + 1) cp').ownBlock ≠ some m) := by
  have e1 : RegB (w2.drew.alloc (.cells (cellsV v) 68)) b m (.slice a l.length cp) cap (countOf l) (activeOf l) T := (H2.out.1.drewN 1).alloc _
  have k1 : Kept (fun i => i = b ∨ i = m ∨ (Value.slice a l.length cp).ownBlock = some i) w (w2.drew.alloc (.cells (cellsV v) 68)) := (H2.out.2.2.2.1.drew).alloc _
  have hsz : n0 ≤ (w2.drew.alloc (.cells (cellsV v) 68)).heap.size := by have := H2.out.2.2.2.2; simp; omega
  have hs3' : (Value.slice a' (l.length + 1) cp').ownBlock = (Value.slice a l.length cp).ownBlock ∨ ∃ q, (Value.slice a' (l.length + 1) cp').ownBlock = some q ∧ n0 ≤ q := hs3.imp id (fun h => ⟨_, h, hsz⟩)
  refine Lib.hid ⟨⟨e1.1.grown hg3 (Ne.symm HNE.out.1), e1.2.grown hg3 (Ne.symm HNE.out.2)⟩, by rw [flat_append, flat_one]; exact ho3, k1.trans (Kept.of_grown (S := fun i => some i = (Value.slice a l.length cp).ownBlock) hg3 (fun i hi => hi)) (fun i _ e => .inr (.inr e.symm)), hs3', ?_, ?_⟩
  ·rcases hs3' with h | ⟨q, h, hq⟩ <;> rw [h]
   ·exact HNE.out.1
   ·intro e; injection e; omega
  ·rcases hs3' with h | ⟨q, h, hq⟩ <;> rw [h]
   ·exact HNE.out.2
   ·intro e; injection e; omega
 have S5 := H3.out.1.cells.2.1
 have S6 : w3.rangeAt n0 0 v.row := fun j u hu => hg3.cell (cell_alloc_some _ (S4 j u hu)) (by intro e; have := HLT.out n0 e.symm; omega)
 refine ⟨⟨S5, S6⟩, ?_⟩
 clear ho3 hg3 hs3
 simp only [Act.put, List.getElem_toArray, List.getElem_cons_zero, List.getElem_cons_succ, List.setIfInBounds_toArray, List.set_cons_zero, List.set_cons_succ]
 refine hfT (fun w' => w'.cell? ⟨b, 1, none⟩ = some (.slice a l.length cp) ∧ w'.rangeAt n0 0 v.row) (m := 2) (f := 0) [8, 9] ⟨S5, S6⟩ ?_
 simp only [List.filterMap_cons, List.filterMap_nil, List.getElem?_toArray, List.getElem?_cons_zero, List.getElem?_cons_succ]
 show wpQuiet _ _ _ _ [_, _] _
 iterate 2 (go_big_quiet_step ((intros; rfl)))
 refine wpQuiet_nil ?_
 show Region.seqB _ _ _ _ _ = true ∧ _
 refine ⟨by kernel_rfl, ?_⟩
 simp only [Act.put, List.getElem_toArray, List.getElem_cons_zero, List.getElem_cons_succ, List.setIfInBounds_toArray, List.set_cons_zero, List.set_cons_succ, List.drop_succ_cons, List.drop_zero]
 have Z1 := H3.out.1.1.frozen 1
 have HI := Lib.hid (include_any b m cap (.slice a' (l.length + 1) cp') (countOf l) (activeOf l) T v (w3.setCell ⟨b, 1, none⟩ (.slice a' (l.length + 1) cp')) (H3.out.1.list _) HV.out hA0 hA hT hcb.1 (by omega))
 clear S2 S3 S4 S6 H2 hi hz hs7 hby
 go_wp2
 refine NoPanic.normal ?_
 go_wp2
 refine leaves_cons (f := 214) (args := #[.pointer (some ⟨b, 0, none⟩), .agg (cellsV v)]) (by simp) (by simp [go_sem]) ?_
 refine (HI.out.2 _).mono ?_
 rintro e u' w4 ⟨rfl, rfl, hr4, hk4⟩
 refine ⟨_, results_tmp2 rfl _ _ _, rfl, .slice a' (l.length + 1) cp', ?_, ?_, ?_, ?_⟩
 ·have e1 : activeOf (l ++ [v]) = activeOf l + liveBal v := by rw [active_append]; simp [activeOf]
  have e2 : totalOf (l ++ [v]) = T + v.bal := by rw [total_append, hTe]; simp [totalOf]
  rw [e1, e2]
  refine ⟨hr4.1, hr4.2.congr (fun q => ?_)⟩
  rw [count_append]
  simp only [upd, countOf]
  by_cases hq : q = v.st
  ·subst hq; simp
  ·rw [if_neg hq, if_neg (fun e => hq e.symm)]; omega
 ·refine owns_same H3.out.2.1 (fun i hi => ?_)
  have h1 : i ≠ b := by rintro rfl; exact H3.out.2.2.2.2.1 hi
  have h2 : i ≠ m := by rintro rfl; exact H3.out.2.2.2.2.2 hi
  have h3 := (H3.out.2.1.lt i hi).2
  rw [hk4.block i (by simpa [World.setCell] using h3) (by rintro (h | h); exact h1 h; exact h2 h)]
  exact Below.heap_setCell _ _ _ _ h1
 ·rw [hn0]
  exact H3.out.2.2.2.1
 ·exact (H3.out.2.2.1.setCell (.inl (.inl rfl)) _).trans hk4 (fun i _ hi => hi.elim .inl (fun h => .inr (.inl h)))
theorem addv_any (b cap : Nat) (S : Nat → Prop) (l : List Val) (v : Val) (w : World) (h : Reg w b S cap l) (hv : FitsV v) :
  Calls Tryz.prog 169 #[.pointer (some ⟨b, 0, none⟩), .agg (cellsV v)] w fun e w' =>
   (l.length = cap ∧ e = .returned (.tuple #[.int .i64 (-1), .int .i64 5]) ∧ Below w.heap.size w w') ∨
   (l.length < cap ∧ 18446744073709551615 < totalOf l + v.bal ∧ e = .returned (.tuple #[.int .i64 (-1), .int .i64 10]) ∧ Below w.heap.size w w') ∨
   (l.length < cap ∧ totalOf l + v.bal ≤ 18446744073709551615 ∧ e = .returned (.tuple #[.int .i64 l.length, .int .i64 0]) ∧ ∃ S', Reg w' b S' cap (l ++ [v]) ∧ (∀ i, S' i → S i ∨ w.heap.size ≤ i) ∧ Kept S w w') := by
 obtain ⟨m, s, h1, h2, h3, h4, h5, h6, h7, hS⟩ := h
 obtain ⟨a, cp, rfl, _, _⟩ := owns_slice h2
 obtain ⟨x0, x1, x2, x3, x4⟩ := h1.cells
 by_cases hc : l.length = cap
 ·rw [hc] at x1
  exact (addv_full b cap cp a v w x0 x1).mono fun e w' ⟨he, hb⟩ => .inl ⟨hc, he, hb⟩
 ·by_cases ht : totalOf l + v.bal ≤ 18446744073709551615
  ·refine (addv_ok b cap m _ l v w h1 h2 (by omega) h4 h7 hv ht).mono fun e w' ⟨he, s', r1, r2, r3, r4⟩ => .inr (.inr ⟨by omega, ht, he, fun i => i = b ∨ i = m ∨ s'.ownBlock = some i, ⟨m, s', r1, by simpa using r2, h3, h4, by simp; omega, ?_, ?_, fun i => Iff.rfl⟩, ?_, ?_⟩)
   ·rw [total_append]; simp [totalOf]; omega
   ·intro x hx
    rcases List.mem_append.1 hx with hx | hx
    ·exact h7 x hx
    ·obtain rfl := List.mem_singleton.1 hx
     exact hv
   ·rintro i (rfl | rfl | hi)
    ·exact .inl ((hS _).2 (.inl rfl))
    ·exact .inl ((hS _).2 (.inr (.inl rfl)))
    ·rcases r3 with r3 | ⟨q, r3, hq⟩
     ·exact .inl ((hS i).2 (.inr (.inr (by rw [← r3]; exact hi))))
     ·rw [r3] at hi
      injection hi with hi
      exact .inr (by omega)
   ·exact r4.more (fun i _ hi => (hS i).2 hi)
  ·exact (addv_over b cap cp l.length a (totalOf l) v w x0 x1 x4 (by omega) h4 hv (total_nonneg h7) h6 (by omega)).mono fun e w' ⟨he, hb⟩ => .inr (.inl ⟨by omega, by omega, he, hb⟩)
end
end Go.Proofs.YtobgbcdgffgdhaaGreat
