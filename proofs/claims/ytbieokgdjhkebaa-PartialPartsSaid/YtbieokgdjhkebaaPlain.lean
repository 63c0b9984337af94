/- What a partial withdrawal says, as plain functions: the code of Check, the available amount, what is paid, what Step leaves and pays. -/
import Derived.Test.YtbieokgdjhkebaaBase
import Derived.Test.YtbieokgdjhkebaaRq
import Derived.Test.YtbieokgdjhkebaaPy
namespace Go.Proofs.Ytbieokgdjhkebaa
set_option linter.unusedVariables false
set_option linter.unusedSimpArgs false

def inB (r : Rq) (n : Nat) : Bool := decide (0 ≤ r.ix ∧ r.ix < n)
def chkP (l : List Val) (r : Rq) : Int := if inB r l.length = false then 7 else if r.am = 0 then 3 else if (l.getD r.ix.toNat val0).st ≠ 2 then 8 else 0
def avail (v : Val) (mb : Int) : Int := if v.st ≠ 2 then 0 else if v.sl = true then 0 else if mb < v.bal then v.bal - mb else 0
def paidX (v : Val) (x mb : Int) : Int := if avail v mb < x then avail v mb else x
def appV (v : Val) (x mb : Int) : Val := { v with bal := v.bal - paidX v x mb }
def payX (l : List Val) (r : Rq) (mb : Int) : Int := if inB r l.length = true then paidX (l.getD r.ix.toNat val0) r.am mb else 0
def payL (l : List Val) (r : Rq) (mb : Int) : List Val := if inB r l.length = true then l.set r.ix.toNat (appV (l.getD r.ix.toNat val0) r.am mb) else l
def recP (i x : Int) : List Py := if x = 0 then [] else [⟨i, x, false⟩]
def stepL (mb : Int) : List Val → List Rq → List Val
  | l, [] => l
  | l, r :: q => stepL mb (payL l r mb) q
def stepP (mb : Int) : List Val → List Rq → List Py
  | _, [] => []
  | l, r :: q => recP r.ix (payX l r mb) ++ stepP mb (payL l r mb) q

theorem avail_bounds {v : Val} {mb : Int} (hv : FitsV v) (hm : 0 ≤ mb) : 0 ≤ avail v mb ∧ avail v mb ≤ v.bal := by
  have := hv.bal
  unfold avail
  split
  · omega
  · split
    · omega
    · split <;> omega
theorem paid_bounds {v : Val} {x mb : Int} (hv : FitsV v) (hm : 0 ≤ mb) (hx : 0 ≤ x) : 0 ≤ paidX v x mb ∧ paidX v x mb ≤ v.bal ∧ paidX v x mb ≤ avail v mb ∧ paidX v x mb ≤ x := by
  have := avail_bounds hv hm
  unfold paidX
  split <;> omega
theorem app_fits {v : Val} {x mb : Int} (hv : FitsV v) (hm : 0 ≤ mb) (hx : 0 ≤ x) : FitsV (appV v x mb) := by
  have h := paid_bounds hv hm hx
  have hb := hv.bal
  refine ⟨?_, hv.2⟩
  simp only [appV]
  simp [Lit.wf, IntKind.min, IntKind.max, IntKind.signed, IntKind.bits]
  omega
theorem getD_of {l : List Val} {i : Nat} {v : Val} (h : l[i]? = some v) : l.getD i val0 = v := by rw [List.getD_eq_getElem?_getD, h]; rfl
theorem in_at {l : List Val} {r : Rq} (h : inB r l.length = true) : ∃ (i : Nat) (v : Val), r.ix = (i : Int) ∧ l[i]? = some v := by
  have h' : 0 ≤ r.ix ∧ r.ix < l.length := of_decide_eq_true h
  exact ⟨r.ix.toNat, l[r.ix.toNat]'(by omega), by omega, List.getElem?_eq_getElem _⟩
theorem pay_at {l : List Val} {r : Rq} {i : Nat} {v : Val} (mb : Int) (hi : r.ix = (i : Int)) (hv : l[i]? = some v) : inB r l.length = true ∧ payX l r mb = paidX v r.am mb ∧ payL l r mb = l.set i (appV v r.am mb) := by
  have hl := (List.getElem?_eq_some_iff.1 hv).1
  have h : inB r l.length = true := decide_eq_true (by omega)
  refine ⟨h, ?_, ?_⟩
  · rw [payX, if_pos h, hi, Int.toNat_natCast, getD_of hv]
  · rw [payL, if_pos h, hi, Int.toNat_natCast, getD_of hv]
theorem pay_len (l : List Val) (r : Rq) (mb : Int) : (payL l r mb).length = l.length := by unfold payL; split <;> simp
theorem stepL_len (mb : Int) (q : List Rq) : ∀ l, (stepL mb l q).length = l.length := by
  induction q with
  | nil => intro l; rfl
  | cons p q ih => intro l; rw [stepL, ih, pay_len]
theorem rec_len (i x : Int) : (recP i x).length ≤ 1 := by unfold recP; split <;> simp
theorem stepP_len (mb : Int) (q : List Rq) : ∀ l, (stepP mb l q).length ≤ q.length := by
  induction q with
  | nil => intro l; simp [stepP]
  | cons p q ih => intro l; simp only [stepP, List.length_append, List.length_cons]; have := ih (payL l p mb); have := rec_len p.ix (payX l p mb); omega
theorem stepL_snoc (mb : Int) (r : Rq) (q : List Rq) : ∀ l, stepL mb l (q ++ [r]) = payL (stepL mb l q) r mb := by
  induction q with
  | nil => intro l; rfl
  | cons x q ih => intro l; simp only [List.cons_append, stepL, ih]
theorem stepP_snoc (mb : Int) (r : Rq) (q : List Rq) : ∀ l, stepP mb l (q ++ [r]) = stepP mb l q ++ recP r.ix (payX (stepL mb l q) r mb) := by
  induction q with
  | nil => intro l; simp [stepP, stepL]
  | cons x q ih => intro l; simp only [List.cons_append, stepL, stepP, ih, List.append_assoc]
theorem takeq_snoc {α : Type} {q : List α} {k : Nat} {p : α} (h : q[k]? = some p) : q.take (k + 1) = q.take k ++ [p] := by rw [List.take_add_one, h]; rfl
theorem pay_fits {l : List Val} {r : Rq} {mb : Int} (hm : 0 ≤ mb) (hr : 0 ≤ r.am) (h : ∀ v ∈ l, FitsV v) : ∀ v ∈ payL l r mb, FitsV v := by
  unfold payL
  split
  · rename_i hb
    obtain ⟨i, v, hi, hv⟩ := in_at hb
    rw [hi, Int.toNat_natCast, getD_of hv]
    intro u hu
    rcases List.mem_or_eq_of_mem_set hu with h1 | h1
    · exact h u h1
    · exact h1 ▸ app_fits (h v (List.mem_of_getElem? hv)) hm hr
  · exact h
theorem FitsRq.am {r : Rq} (h : FitsRq r) : 0 ≤ r.am ∧ r.am ≤ 18446744073709551615 := bounds_u64 h.2
theorem stepL_fits (mb : Int) (hm : 0 ≤ mb) (q : List Rq) : ∀ (l : List Val), (∀ r ∈ q, FitsRq r) → (∀ v ∈ l, FitsV v) → ∀ v ∈ stepL mb l q, FitsV v := by
  induction q with
  | nil => intro l _ h; exact h
  | cons r q ih =>
    intro l hq h
    rw [stepL]
    exact ih _ (fun x hx => hq x (by simp [hx])) (pay_fits hm (hq r (by simp)).am.1 h)
/-- How many requests a step takes. -/
def stepN (c : Nat → Int) (q : List Rq) : Nat := min (c 16).toNat q.length

/-! ### what holds of a step -/
/-- The sum of the payments to i. -/
def paidTo (i : Nat) : List Py → Int
  | [] => 0
  | p :: ps => (if p.ix = (i : Int) then p.am else 0) + paidTo i ps
theorem paidTo_append (i : Nat) (a b : List Py) : paidTo i (a ++ b) = paidTo i a + paidTo i b := by
  induction a with
  | nil => simp [paidTo]
  | cons p a ih => simp only [List.cons_append, paidTo, ih]; omega
theorem paidTo_nonneg (i : Nat) {ps : List Py} (h : ∀ p ∈ ps, 0 ≤ p.am) : 0 ≤ paidTo i ps := by
  induction ps with
  | nil => simp [paidTo]
  | cons p ps ih =>
    have h1 := h p (by simp)
    have h2 := ih (fun x hx => h x (by simp [hx]))
    simp only [paidTo]
    split <;> omega
theorem paidTo_take (i : Nat) {ps : List Py} (h : ∀ p ∈ ps, 0 < p.am) (j : Nat) : 0 ≤ paidTo i (ps.take j) ∧ paidTo i (ps.take j) ≤ paidTo i ps := by
  have h1 := paidTo_nonneg i (ps := ps.take j) (fun p hp => Int.le_of_lt (h p (List.mem_of_mem_take hp)))
  have h2 := paidTo_nonneg i (ps := ps.drop j) (fun p hp => Int.le_of_lt (h p (List.mem_of_mem_drop hp)))
  have h3 := paidTo_append i (ps.take j) (ps.drop j)
  rw [List.take_append_drop] at h3
  omega
theorem paidTo_snoc (i : Nat) {ps : List Py} {j : Nat} {p : Py} (h : ps[j]? = some p) : paidTo i (ps.take (j + 1)) = paidTo i (ps.take j) + if p.ix = (i : Int) then p.am else 0 := by
  rw [takeq_snoc h, paidTo_append]
  simp [paidTo]
theorem paidTo_rec (i : Nat) (j x : Int) : paidTo i (recP j x) = if j = (i : Int) then x else 0 := by
  unfold recP
  split
  · rename_i h; subst h; simp [paidTo]
  · simp [paidTo]
/-- Behind a step: v is the i-th validator before, v' the one behind it. -/
def Paid (mb : Int) (v v' : Val) (x : Int) : Prop := v' = { v with bal := v.bal - x } ∧ 0 ≤ x ∧ (x = 0 ∨ (v.st = 2 ∧ v.sl = false ∧ mb ≤ v.bal - x))
theorem paid_one {v : Val} {x mb : Int} (hv : FitsV v) (hm : 0 ≤ mb) (hx : 0 ≤ x) : Paid mb v (appV v x mb) (paidX v x mb) := by
  refine ⟨rfl, (paid_bounds hv hm hx).1, ?_⟩
  have h := (paid_bounds hv hm hx)
  by_cases h0 : paidX v x mb = 0
  · exact .inl h0
  · refine .inr ?_
    have ha : avail v mb ≠ 0 := by omega
    unfold avail at ha
    have hb := h.2.2.1
    unfold avail at hb
    split at ha
    · omega
    · rename_i h1
      split at ha
      · omega
      · rename_i h2
        split at ha
        · rename_i h3
          rw [if_neg h1, if_neg h2, if_pos h3] at hb
          exact ⟨by simpa using h1, by simpa using h2, by omega⟩
        · omega
theorem Paid.trans {mb : Int} {a b c : Val} {x y : Int} (h : Paid mb a b x) (k : Paid mb b c y) : Paid mb a c (x + y) := by
  obtain ⟨rfl, h1, h2⟩ := h
  obtain ⟨rfl, k1, k2⟩ := k
  refine ⟨by simp [Int.sub_sub], by omega, ?_⟩
  simp only at k2
  rcases k2 with k2 | ⟨k2, k3, k4⟩
  · subst k2
    rcases h2 with h2 | ⟨h2, h3, h4⟩
    · exact .inl (by omega)
    · exact .inr ⟨h2, h3, by omega⟩
  · exact .inr ⟨k2, k3, by omega⟩
theorem Paid.zero {mb : Int} (v : Val) : Paid mb v v 0 := ⟨by simp, Int.le_refl _, .inl rfl⟩
/-- A step pays each validator just the payments to it; each payment is of a validator that is active and not slashed. -/
theorem step_all (mb : Int) (hm : 0 ≤ mb) (q : List Rq) : ∀ (l : List Val), (∀ r ∈ q, FitsRq r) → (∀ v ∈ l, FitsV v) →
    (∀ i v, l[i]? = some v → ∃ v', (stepL mb l q)[i]? = some v' ∧ Paid mb v v' (paidTo i (stepP mb l q))) ∧
    ∀ p ∈ stepP mb l q, 0 < p.am ∧ p.fu = false ∧ ∃ (i : Nat) (v : Val), p.ix = (i : Int) ∧ l[i]? = some v ∧ v.st = 2 ∧ v.sl = false := by
  induction q with
  | nil => exact fun l _ _ => ⟨fun i v hv => ⟨v, hv, Paid.zero v⟩, fun p hp => by simp [stepP] at hp⟩
  | cons r q ih =>
    intro l hq hl
    have hr := (hq r (by simp)).am
    have hq' : ∀ x ∈ q, FitsRq x := fun x hx => hq x (by simp [hx])
    obtain ⟨i1, i2⟩ := ih (payL l r mb) hq' (pay_fits hm hr.1 hl)
    by_cases hb : inB r l.length = true
    · obtain ⟨k, u, hk, hu⟩ := in_at hb
      obtain ⟨_, e1, e2⟩ := pay_at mb hk hu
      have hkl := (List.getElem?_eq_some_iff.1 hu).1
      have P1 := paid_one (hl u (List.mem_of_getElem? hu)) hm hr.1
      simp only [stepL, stepP]
      rw [e2] at i1 i2 ⊢
      rw [e1]
      refine ⟨fun i v hv => ?_, fun p hp => ?_⟩
      · rw [paidTo_append, paidTo_rec]
        by_cases hik : i = k
        · subst hik
          rw [hu] at hv
          injection hv with hv
          subst hv
          rw [if_pos hk]
          obtain ⟨v', g1, g2⟩ := i1 i (appV u r.am mb) (by rw [List.getElem?_set_self hkl])
          exact ⟨v', g1, P1.trans g2⟩
        · rw [if_neg (by omega)]
          obtain ⟨v', g1, g2⟩ := i1 i v (by rw [List.getElem?_set_ne (Ne.symm hik)]; exact hv)
          refine ⟨v', g1, ?_⟩
          rw [Int.zero_add]
          exact g2
      · rcases List.mem_append.1 hp with hp | hp
        · unfold recP at hp
          split at hp
          · cases hp
          · rename_i h0
            rw [List.mem_singleton] at hp
            subst hp
            refine ⟨by have := P1.2.1; simp only; omega, rfl, k, u, hk, hu, ?_⟩
            rcases P1.2.2 with h | h
            · omega
            · exact ⟨h.1, h.2.1⟩
        · obtain ⟨h1, h2, i, v, h3, h4, h5, h6⟩ := i2 p hp
          refine ⟨h1, h2, i, ?_⟩
          by_cases hik : i = k
          · subst hik
            rw [List.getElem?_set_self hkl] at h4
            injection h4 with h4
            subst h4
            exact ⟨u, h3, hu, h5, h6⟩
          · rw [List.getElem?_set_ne (Ne.symm hik)] at h4
            exact ⟨v, h3, h4, h5, h6⟩
    · have e2 : payL l r mb = l := by unfold payL; rw [if_neg hb]
      have e1 : payX l r mb = 0 := by unfold payX; rw [if_neg hb]
      simp only [stepL, stepP]
      rw [e2] at i1 i2 ⊢
      rw [e1, show recP r.ix 0 = [] from rfl, List.nil_append]
      exact ⟨i1, i2⟩
/-- Two requests one after the other are paid like one of their sum. -/
theorem paid_twice {v : Val} {x y mb : Int} (hv : FitsV v) (hm : 0 ≤ mb) (hx : 0 ≤ x) (hy : 0 ≤ y) : appV (appV v x mb) y mb = appV v (x + y) mb ∧ paidX v x mb + paidX (appV v x mb) y mb = paidX v (x + y) mb := by
  have h : paidX v x mb + paidX (appV v x mb) y mb = paidX v (x + y) mb := by
    have hb := hv.bal
    have e : avail (appV v x mb) mb = avail v mb - paidX v x mb := by
      have h1 := paid_one hv hm hx
      rcases h1.2.2 with h2 | ⟨h2, h3, h4⟩
      · rw [h2, Int.sub_zero]
        simp [appV, h2]
      · unfold avail
        simp only [appV, h2, h3]
        simp
        have := h1.2.1
        split <;> split <;> omega
    have hb2 := paid_bounds hv hm hx
    generalize hA : avail v mb = A at *
    have e1 : paidX v x mb = if A < x then A else x := by rw [paidX, hA]
    have e2 : paidX (appV v x mb) y mb = if A - paidX v x mb < y then A - paidX v x mb else y := by rw [paidX, e]
    have e3 : paidX v (x + y) mb = if A < x + y then A else x + y := by rw [paidX, hA]
    rw [e2, e3]
    generalize paidX v x mb = X at *
    split at e1 <;> split <;> split <;> omega
  refine ⟨?_, h⟩
  unfold appV
  simp only at h ⊢
  congr 1
  have : paidX { v with bal := v.bal - paidX v x mb } y mb = paidX (appV v x mb) y mb := rfl
  rw [this]
  omega
end Go.Proofs.Ytbieokgdjhkebaa
