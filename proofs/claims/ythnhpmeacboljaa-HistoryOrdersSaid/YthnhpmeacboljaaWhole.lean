/- A region that draws its order and has no last operation that waits for all others (a tuple assignment with '_'): the law of First without a tail. Also: a load in the midst of such a walk. No program in sight. -/
import Derived.Test.YthnhpmeacboljaaFirst
namespace Go.Proofs.Ythnhpmeacboljaa
open Go Go.RowKit
section
variable {P : Program} {ops : Array Oper} {Q : Exit → Act → World → Prop} {md : Region.Mode} {S : World → Prop}

theorem ready_lt {listed : Array Bool} {j : Nat} (h : j ∈ Region.ready md ops listed) : j < ops.size := by
  obtain ⟨_, o, ho, _⟩ := mem_ready.1 h
  exact (Array.getElem?_eq_some_iff.1 ho).1
theorem wpHeadF_firstW {i : Nat} {oi : Oper} {v : Value} {L : Array Bool → Act → World → Prop} (hi : ops[i]? = some oi) (hsel : ∀ (j : Nat) (o : Oper) cs b, ops[j]? = some o → o.op ≠ .select cs b)
    (hQ : ∀ c a w, Q (.panic c) (a.put oi.dst v) w → Q (.panic c) a w)
    (hdone : ∀ listed a w, L listed a w → Region.ready md ops listed = []) :
    ∀ (f : Nat) (listed : Array Bool) (a : Act) (w : World),
      (∀ j oj, ops[j]? = some oj → j ≠ i → listed.getD j true = false → (∀ e ∈ oj.after, Region.binds md e = true → e.on ≠ i) → oi.apart ops oj = true) →
      i ∈ Region.ready md ops listed → YieldsIf P ops S oi v a → S w →
      wpHeadF P md ops Q S ops.size L f (listed.setIfInBounds i true) (a.put oi.dst v) w → wpHeadF P md ops Q S ops.size L (f + 1) listed a w := by
  intro f
  induction f with
  | zero =>
    intro listed a w _ hr hy hS H
    refine ⟨fun h => (by rw [h] at hr; cases hr), fun j hj => ⟨ready_lt hj, ?_⟩⟩
    by_cases hji : j = i
    · subst hji; exact hy.wpOp hi hS ⟨hS, H⟩
    · have := hdone _ _ _ H
      have hm := ready_mono hj hji
      rw [this] at hm
      cases hm
  | succ f ih =>
    intro listed a w hfree hr hy hS H
    have hun := (mem_ready.1 hr).1
    refine ⟨fun h => (by rw [h] at hr; cases hr), fun j hj => ⟨ready_lt hj, ?_⟩⟩
    by_cases hji : j = i
    · subst hji; exact hy.wpOp hi hS ⟨hS, H⟩
    · have h1 := (H.2 j (ready_mono hj hji)).2
      obtain ⟨hjun, oj, hoj, hall⟩ := mem_ready.1 hj
      have hnot : ∀ e ∈ oj.after, Region.binds md e = true → e.on ≠ i := fun e he hb heq => by
        have h1 := hall e he hb
        rw [heq, getD_both hun] at h1
        cases h1
      have h2 := wpOp_putIf hoj (hfree j oj hoj hji hjun hnot) (fun cs b => hsel i oi cs b hi) (fun cs b => hsel j oj cs b hoj) hQ hy h1
      have hfree' : ∀ k ok, ops[k]? = some ok → k ≠ i → (listed.setIfInBounds j true).getD k true = false →
          (∀ e ∈ ok.after, Region.binds md e = true → e.on ≠ i) → oi.apart ops ok = true := fun k ok hk hki hun hno => by
        refine hfree k ok hk hki ?_ hno
        by_cases hjk : j = k
        · subst hjk; exact hjun
        · rw [getD_set_ne true hjk] at hun; exact hun
      refine wpOp_mono (fun a' w' h3 => ⟨h3.2.1, ih (listed.setIfInBounds j true) a' w' hfree' (ready_mono hr (Ne.symm hji)) h3.1 h3.2.1 ?_⟩) h2
      rw [Array.setIfInBounds_comm _ _ hji]
      exact h3.2.2
theorem wpHeadF_takesW {L : Array Bool → Act → World → Prop} {w : World} (hsel : Region.noSelect ops = true) (hQ : ∀ c a w, Q (.panic c) a w → False)
    (hdone : ∀ listed a w, L listed a w → Region.ready md ops listed = []) (hS : S w) (f : Nat) :
    ∀ (ks : List Nat) (listed : Array Bool) (a : Act), takeB md ops ops.size ks listed = true →
      wpQuiet P ops S (fun a' => wpHeadF P md ops Q S ops.size L f (listAll ks listed) a' w) (ks.filterMap fun k => ops[k]?) a → wpHeadF P md ops Q S ops.size L (f + ks.length) listed a w
  | [], listed, a, _, h => h
  | k :: ks, listed, a, hB, h => by
    simp only [takeB, Bool.and_eq_true, decide_eq_true_eq] at hB
    obtain ⟨⟨⟨⟨hkn, hp⟩, hr⟩, hf⟩, hB'⟩ := hB
    cases ho : ops[k]? with
    | none => rw [ho] at hp; cases hp
    | some o =>
      rw [ho] at hp
      rw [List.filterMap_cons_some ho] at h
      have hr' : k ∈ Region.ready md ops listed := by simpa using hr
      have hq : qOp P ops S k (wpQuiet P ops S (fun a' => wpHeadF P md ops Q S ops.size L f (listAll ks (listed.setIfInBounds k true)) a' w) (ks.filterMap fun k => ops[k]?)) a := by unfold qOp; simp only [ho]; exact h
      obtain ⟨v, hy, hK⟩ := yieldsIf_of_quiet ho hp hq
      exact wpHeadF_firstW ho (Region.noSelect_spec hsel) (fun c a w h => (hQ _ _ _ h).elim) hdone (f + ks.length) listed a w (Region.free_spec ho hf) hr' hy hS
        (wpHeadF_takesW hsel hQ hdone hS f ks _ _ hB' hK)
/-- **The law of a region without a last operation**: ks are taken first (in worlds of S), the others come up in whatever order. -/
theorem wp_region_whole {id : Nat} {a : Act} {w : World} {l : List Oper} (S : World → Prop) (f : Nat) (ks : List Nat) (hm : P.follows .mixedOrders = true)
    (hB : (Region.noSelect l.toArray && takeB .any l.toArray l.toArray.size ks (Array.replicate l.toArray.size false) && decide (f + ks.length = l.toArray.size)) = true)
    (hS : S w.drew)
    (h : wpQuiet P l.toArray S (fun a' => wpHeadF P .any l.toArray (NoPanic Q) S l.toArray.size (fun listed a' w' => Region.ready .any l.toArray listed = [] ∧ NoPanic Q .normal a' w') f (listAll ks (Array.replicate l.toArray.size false)) a' w.drew) (ks.filterMap fun k => l.toArray[k]?) a) :
    (Code.region id l.toArray true).wp P Q a w := by
  simp only [Bool.and_eq_true, decide_eq_true_eq] at hB
  obtain ⟨⟨hsel, ht⟩, hf⟩ := hB
  refine wp_region_noPanic (wp_region_any hm ?_)
  have H := wpHeadF_takesW (Q := NoPanic Q) hsel (fun _ _ _ h => h) (fun listed a w hL => hL.1) hS f ks _ a ht h
  have := wpAny_of_headF (Q := NoPanic Q) (g := 0) (fun listed a' w' hL => ⟨hL.1, hL.2⟩) _ _ _ _ H
  rw [hf] at this
  exact this
/-- In the midst of such a walk: ks are taken now, in worlds of a stronger class. -/
theorem headF_takesW {f m : Nat} {l : List Oper} {a : Act} {w : World} {listed : Array Bool} (S' : World → Prop) (ks : List Nat) (hSS : ∀ w, S' w → S w)
    (hB : (Region.noSelect l.toArray && takeB .any l.toArray l.toArray.size ks listed && decide (f + ks.length = m)) = true) (hS : S' w)
    (h : wpQuiet P l.toArray S' (fun a' => wpHeadF P .any l.toArray (NoPanic Q) S' l.toArray.size (fun listed a' w' => Region.ready .any l.toArray listed = [] ∧ NoPanic Q .normal a' w') f (listAll ks listed) a' w) (ks.filterMap fun k => l.toArray[k]?) a) :
    wpHeadF P .any l.toArray (NoPanic Q) S l.toArray.size (fun listed a' w' => Region.ready .any l.toArray listed = [] ∧ NoPanic Q .normal a' w') m listed a w := by
  simp only [Bool.and_eq_true, decide_eq_true_eq] at hB
  obtain ⟨⟨hsel, ht⟩, hf⟩ := hB
  refine wpHeadF_mono hSS m listed a w ?_
  rw [← hf]
  exact wpHeadF_takesW (Q := NoPanic Q) hsel (fun _ _ _ h => h) (fun listed a w hL => hL.1) hS f ks _ a ht h
/-- Three operations are ready. -/
theorem headF_three {n f i j k : Nat} {L : Array Bool → Act → World → Prop} {listed : Array Bool} {a : Act} {w : World} (hr : Region.ready md ops listed = [i, j, k]) (hi : i < n) (hj : j < n) (hk : k < n)
    (h1 : wpOp P ops Q i (fun a' w' => S w' ∧ wpHeadF P md ops Q S n L f (listed.setIfInBounds i true) a' w') a w)
    (h2 : wpOp P ops Q j (fun a' w' => S w' ∧ wpHeadF P md ops Q S n L f (listed.setIfInBounds j true) a' w') a w)
    (h3 : wpOp P ops Q k (fun a' w' => S w' ∧ wpHeadF P md ops Q S n L f (listed.setIfInBounds k true) a' w') a w) : wpHeadF P md ops Q S n L (f + 1) listed a w := by
  refine ⟨by rw [hr]; simp, fun m hm => ?_⟩
  rw [hr] at hm
  simp only [List.mem_cons, List.not_mem_nil, or_false] at hm
  rcases hm with rfl | rfl | rfl
  · exact ⟨hi, h1⟩
  · exact ⟨hj, h2⟩
  · exact ⟨hk, h3⟩
/-- A row in the midst of a block is read, as one operation. -/
theorem wp_load_mid {o : Oper} {a : Act} {w : World} {K : Act → World → Prop} (ty : TypeId) (x : Operand) (ho : o.op = .load ty x)
    (b off : Nat) (hx : a.eval x = .pointer (some ⟨b, off, none⟩)) (cs : List Value) (d : TypeDesc) (hc : w.rangeAt b off cs)
    (hu : P.underlying ty = some d) (hd : d.isRow = true) (hi : (P.info? ty).map (·.size) = some cs.length) (h : K (a.put o.dst (.agg cs.toArray)) w) : o.wp P a w K Q := by
  unfold Oper.wp execOp
  simp only [ho, hx, Instr.loadAt, Instr.sureAddr, Sem.run_bind, Sem.run_pure, Result.andThen_ok, run_loadVar_mid w b off ty cs d hc hu hd hi]
  exact h
end
end Go.Proofs.Ythnhpmeacboljaa
