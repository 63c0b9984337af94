/- What a consolidation says, as plain functions: the code of Check, what Apply makes, the code of Request, what Step leaves. -/
import Derived.Test.YtnaheindlkehhaaPair
namespace Go.Proofs.Ytnaheindlkehhaa
set_option linter.unusedVariables false
set_option linter.unusedSimpArgs false

def idleB (s d : Val) : Bool := decide (s.st ≠ 2 ∨ d.st ≠ 2)
def slashB (s d : Val) : Bool := s.sl || d.sl
/-- The sum is too large (for an amount, or for mb). -/
def overB (s d : Val) (mb : Int) : Bool := decide (18446744073709551615 < s.bal + d.bal ∨ mb < s.bal + d.bal)
def chkM (s d : Val) (mb : Int) : Int := if idleB s d = true then 8 else if slashB s d = true then 9 else if overB s d mb = true then 3 else 0
def mvS (s : Val) : Val := { s with bal := 0, st := 7 }
def mvD (s d : Val) : Val := { d with bal := d.bal + s.bal }
def reqM (l : List Val) (p : Int × Int) (mb : Int) : Int :=
  if p.1 < 0 ∨ p.2 < 0 ∨ (l.length : Int) ≤ p.1 ∨ (l.length : Int) ≤ p.2 then 7 else if p.1 = p.2 then 12 else chkM (l.getD p.1.toNat val0) (l.getD p.2.toNat val0) mb
def moveL (l : List Val) (i j : Nat) : List Val := (l.set i (mvS (l.getD i val0))).set j (mvD (l.getD i val0) (l.getD j val0))
def stepOne (l : List Val) (p : Int × Int) (mb : Int) : List Val := if reqM l p mb = 0 then moveL l p.1.toNat p.2.toNat else l
def stepL (mb : Int) : List Val → List (Int × Int) → List Val
  | l, [] => l
  | l, p :: q => stepL mb (stepOne l p mb) q
def stepD (mb : Int) : List Val → List (Int × Int) → List Bool
  | _, [] => []
  | l, p :: q => decide (reqM l p mb = 0) :: stepD mb (stepOne l p mb) q

theorem chk_ok {s d : Val} {mb : Int} (h : chkM s d mb = 0) : s.st = 2 ∧ d.st = 2 ∧ s.sl = false ∧ d.sl = false ∧ s.bal + d.bal ≤ 18446744073709551615 ∧ s.bal + d.bal ≤ mb := by
  unfold chkM at h
  split at h
  · omega
  · split at h
    · omega
    · split at h
      · omega
      · rename_i h1 h2 h3
        simp [idleB] at h1
        simp [slashB] at h2
        simp [overB] at h3
        exact ⟨h1.1, h1.2, h2.1, h2.2, by omega, by omega⟩
theorem req_in {l : List Val} {p : Int × Int} {mb : Int} (h : reqM l p mb = 0) : ∃ (i j : Nat) (s d : Val), p = ((i : Int), (j : Int)) ∧ i ≠ j ∧ l[i]? = some s ∧ l[j]? = some d ∧ chkM s d mb = 0 := by
  unfold reqM at h
  split at h
  · omega
  · split at h
    · omega
    · rename_i h1 h2
      obtain ⟨p1, p2⟩ := p
      simp only at h h1 h2
      refine ⟨p1.toNat, p2.toNat, l.getD p1.toNat val0, l.getD p2.toNat val0, ?_, by omega, ?_, ?_, h⟩
      · simp only [Prod.mk.injEq]
        omega
      · rw [List.getD_eq_getElem?_getD, List.getElem?_eq_getElem (by omega)]; rfl
      · rw [List.getD_eq_getElem?_getD, List.getElem?_eq_getElem (by omega)]; rfl
theorem getD_of {l : List Val} {i : Nat} {v : Val} (h : l[i]? = some v) : l.getD i val0 = v := by rw [List.getD_eq_getElem?_getD, h]; rfl
theorem req_at {l : List Val} {i j : Nat} {s d : Val} (mb : Int) (hi : l[i]? = some s) (hj : l[j]? = some d) : reqM l ((i : Int), (j : Int)) mb = if i = j then 12 else chkM s d mb := by
  have h1 := (List.getElem?_eq_some_iff.1 hi).1
  have h2 := (List.getElem?_eq_some_iff.1 hj).1
  unfold reqM
  rw [if_neg (by simp only; omega)]
  simp only [Int.toNat_natCast, getD_of hi, getD_of hj]
  by_cases h : i = j
  · rw [if_pos (by omega), if_pos h]
  · rw [if_neg (by omega), if_neg h]
theorem move_len (l : List Val) (i j : Nat) : (moveL l i j).length = l.length := by simp [moveL]
theorem one_len (l : List Val) (p : Int × Int) (mb : Int) : (stepOne l p mb).length = l.length := by unfold stepOne; split <;> simp [move_len]
theorem stepL_len (mb : Int) (q : List (Int × Int)) : ∀ l, (stepL mb l q).length = l.length := by
  induction q with
  | nil => intro l; rfl
  | cons p q ih => intro l; rw [stepL, ih, one_len]
theorem stepD_len (mb : Int) (q : List (Int × Int)) : ∀ l, (stepD mb l q).length = q.length := by
  induction q with
  | nil => intro l; rfl
  | cons p q ih => intro l; simp [stepD, ih]
theorem stepL_snoc (mb : Int) (p : Int × Int) (q : List (Int × Int)) : ∀ l, stepL mb l (q ++ [p]) = stepOne (stepL mb l q) p mb := by
  induction q with
  | nil => intro l; rfl
  | cons x q ih => intro l; simp only [List.cons_append, stepL, ih]
theorem stepD_snoc (mb : Int) (p : Int × Int) (q : List (Int × Int)) : ∀ l, stepD mb l (q ++ [p]) = stepD mb l q ++ [decide (reqM (stepL mb l q) p mb = 0)] := by
  induction q with
  | nil => intro l; rfl
  | cons x q ih => intro l; simp only [List.cons_append, stepL, stepD, ih]; rfl
theorem takeq_snoc {q : List (Int × Int)} {k : Nat} {p : Int × Int} (h : q[k]? = some p) : q.take (k + 1) = q.take k ++ [p] := by rw [List.take_add_one, h]; rfl

/-! ### what holds of a step's list -/
/-- An invariant of lists that each consolidation keeps holds behind all of them. -/
theorem stepL_ind (mb : Int) {I : List Val → Prop} (hI : ∀ l i j s d, I l → i ≠ j → l[i]? = some s → l[j]? = some d → chkM s d mb = 0 → I ((l.set i (mvS s)).set j (mvD s d))) (q : List (Int × Int)) : ∀ l, I l → I (stepL mb l q) := by
  induction q with
  | nil => exact fun l h => h
  | cons p q ih =>
    intro l h
    rw [stepL]
    refine ih _ ?_
    unfold stepOne
    split
    · rename_i h0
      obtain ⟨i, j, s, d, rfl, hne, hi, hj, hc⟩ := req_in h0
      simp only [moveL, Int.toNat_natCast, getD_of hi, getD_of hj]
      exact hI l i j s d h hne hi hj hc
    · exact h
theorem mv_get {l : List Val} {i j : Nat} {s d : Val} (hne : i ≠ j) (hi : l[i]? = some s) (hj : l[j]? = some d) (k : Nat) :
    ((l.set i (mvS s)).set j (mvD s d))[k]? = if k = j then some (mvD s d) else if k = i then some (mvS s) else l[k]? := by
  have h1 := (List.getElem?_eq_some_iff.1 hi).1
  have h2 := (List.getElem?_eq_some_iff.1 hj).1
  by_cases h : k = j
  · subst h; simp [h2]
  · by_cases h' : k = i
    · subst h'; rw [if_neg h, if_pos rfl, List.getElem?_set_ne (Ne.symm h), List.getElem?_set_self h1]
    · rw [if_neg h, if_neg h', List.getElem?_set_ne (Ne.symm h), List.getElem?_set_ne (Ne.symm h')]
theorem fits_mv {s d : Val} {mb : Int} (hs : FitsV s) (hd : FitsV d) (hc : chkM s d mb = 0) : FitsV (mvS s) ∧ FitsV (mvD s d) := by
  have h := chk_ok hc
  have hs' := hs.bal
  have hd' := hd.bal
  refine ⟨⟨show (Lit.int .u64 0).wf = true by decide, show (Lit.int .i64 7).wf = true by decide⟩, ?_, hd.2⟩
  simp [mvD, Lit.wf, IntKind.min, IntKind.max, IntKind.signed, IntKind.bits]
  omega
theorem stepL_fits (mb : Int) (q : List (Int × Int)) (l : List Val) (h : ∀ v ∈ l, FitsV v) : ∀ v ∈ stepL mb l q, FitsV v := by
  refine stepL_ind mb (I := fun l => ∀ v ∈ l, FitsV v) (fun l i j s d hI hne hi hj hc v hv => ?_) q l h
  obtain ⟨k, hk⟩ := List.getElem?_of_mem hv
  rw [mv_get hne hi hj] at hk
  have hf := fits_mv (hI s (List.mem_of_getElem? hi)) (hI d (List.mem_of_getElem? hj)) hc
  split at hk
  · injection hk with hk; subst hk; exact hf.2
  · split at hk
    · injection hk with hk; subst hk; exact hf.1
    · exact hI v (List.mem_of_getElem? hk)
theorem stepL_sums (mb : Int) (q : List (Int × Int)) (l : List Val) : totalOf (stepL mb l q) = totalOf l ∧ activeOf (stepL mb l q) = activeOf l := by
  refine stepL_ind mb (I := fun m => totalOf m = totalOf l ∧ activeOf m = activeOf l) (fun m i j s d hI hne hi hj hc => ?_) q l ⟨rfl, rfl⟩
  have h := chk_ok hc
  have hj' : (m.set i (mvS s))[j]? = some d := by rw [List.getElem?_set_ne hne]; exact hj
  rw [total_set hj', total_set hi, active_set hj', active_set hi, hI.1, hI.2]
  have e1 : liveBal s = s.bal := by simp [liveBal, liveB, h.1]
  have e2 : liveBal d = d.bal := by simp [liveBal, liveB, h.2.1]
  have e3 : liveBal (mvS s) = 0 := by simp [liveBal, liveB, mvS]
  have e4 : liveBal (mvD s d) = d.bal + s.bal := by simp [liveBal, liveB, mvD, h.2.1]
  rw [e1, e2, e3, e4]
  simp only [mvS, mvD]
  omega
/-- How many of the first k are merged in m, but not in l. -/
def newTo (l m : List Val) : Nat → Int
  | 0 => 0
  | k + 1 => newTo l m k + (if (m.getD k val0).st = 7 ∧ (l.getD k val0).st ≠ 7 then 1 else 0)
theorem new_bounds (l m : List Val) : ∀ k, 0 ≤ newTo l m k ∧ newTo l m k ≤ k
  | 0 => by simp [newTo]
  | k + 1 => by
    have := new_bounds l m k
    simp only [newTo]
    split <;> omega
theorem new_same (l m : List Val) (i : Nat) {m' : List Val} (h : ∀ k, k ≠ i → (m'.getD k val0).st = (m.getD k val0).st) : ∀ k, k ≤ i → newTo l m' k = newTo l m k
  | 0, _ => rfl
  | k + 1, hk => by rw [newTo, newTo, new_same l m i h k (by omega), h k (by omega)]
theorem new_one (l m : List Val) (i : Nat) {m' : List Val} (h : ∀ k, k ≠ i → (m'.getD k val0).st = (m.getD k val0).st) : ∀ k, newTo l m' k ≤ newTo l m k + 1
  | 0 => by simp [newTo]
  | k + 1 => by
    by_cases hk : k = i
    · subst hk
      rw [newTo, newTo, new_same l m k h k (Nat.le_refl _)]
      split <;> split <;> omega
    · have := new_one l m i h k
      rw [newTo, newTo, h k hk]
      omega
theorem new_self (l : List Val) : ∀ k, newTo l l k = 0
  | 0 => rfl
  | k + 1 => by
    rw [newTo, new_self l k, if_neg (by omega)]
    rfl
theorem getD_mv {l : List Val} {i j : Nat} {s d : Val} (hne : i ≠ j) (hi : l[i]? = some s) (hj : l[j]? = some d) (k : Nat) :
    ((l.set i (mvS s)).set j (mvD s d)).getD k val0 = if k = j then mvD s d else if k = i then mvS s else l.getD k val0 := by
  rw [List.getD_eq_getElem?_getD, mv_get hne hi hj]
  split
  · rfl
  · split
    · rfl
    · rw [List.getD_eq_getElem?_getD]
theorem stepL_new (mb : Int) (l : List Val) (q : List (Int × Int)) : ∀ m k, newTo l (stepL mb m q) k ≤ newTo l m k + q.length := by
  induction q with
  | nil => intro m k; simp [stepL]
  | cons p q ih =>
    intro m k
    have h1 := ih (stepOne m p mb) k
    have h2 : newTo l (stepOne m p mb) k ≤ newTo l m k + 1 := by
      unfold stepOne
      split
      · rename_i h0
        obtain ⟨i, j, s, d, rfl, hne, hi, hj, hc⟩ := req_in h0
        simp only [moveL, Int.toNat_natCast, getD_of hi, getD_of hj]
        refine new_one l m i (fun k hk => ?_) k
        rw [getD_mv hne hi hj, if_neg hk]
        split
        · rename_i e
          subst e
          rw [getD_of hj]
          rfl
        · rfl
      · omega
    rw [stepL]
    simp only [List.length_cons]
    omega
/-- Behind a step: a balance that grew is within mb; one that is newly merged has no balance. -/
theorem stepL_limits (mb : Int) (q : List (Int × Int)) (l : List Val) (hm : 0 ≤ mb) (k : Nat) :
    (((stepL mb l q).getD k val0).bal ≤ (l.getD k val0).bal ∨ ((stepL mb l q).getD k val0).bal ≤ mb) ∧ (((stepL mb l q).getD k val0).st = 7 → (l.getD k val0).st = 7 ∨ ((stepL mb l q).getD k val0).bal = 0) := by
  refine stepL_ind mb (I := fun m => ((m.getD k val0).bal ≤ (l.getD k val0).bal ∨ (m.getD k val0).bal ≤ mb) ∧ ((m.getD k val0).st = 7 → (l.getD k val0).st = 7 ∨ (m.getD k val0).bal = 0)) (fun m i j s d hI hne hi hj hc => ?_) q l ⟨.inl (Int.le_refl _), fun h => .inl h⟩
  have h := chk_ok hc
  rw [getD_mv hne hi hj]
  split
  · refine ⟨.inr (by simp only [mvD]; omega), fun h7 => ?_⟩
    simp only [mvD] at h7
    omega
  · split
    · exact ⟨.inr hm, fun _ => .inr rfl⟩
    · exact hI
end Go.Proofs.Ytnaheindlkehhaa
