/- Exits in the order of processing, as long as their weights fit: plain lists and numbers. -/
import Derived.Test.YtjleklhajmhekaaLn
namespace Go.Proofs.Ytjleklhajmhekaa
set_option linter.unusedVariables false
set_option linter.unusedSimpArgs false

/-- What is assigned (index, class), what remains in both queues, what remains of the balance. -/
def asg (om : Int → Int) : List Int → List Int → Int → List (Int × Int) × List Int × List Int × Int
  | [], [], B => ([], [], [], B)
  | [], x :: V, B => if om x ≤ B then ((x, 1) :: (asg om [] V (B - om x)).1, (asg om [] V (B - om x)).2) else ([], [], x :: V, B)
  | x :: F, V, B => if om x ≤ B then ((x, 0) :: (asg om F V (B - om x)).1, (asg om F V (B - om x)).2) else ([], x :: F, V, B)
termination_by F V => F.length + V.length
section
variable {om : Int → Int} {F V : List Int} {B : Int}
theorem asg_none (h : hdB F V = false) : asg om F V B = ([], F, V, B) ∧ F = [] ∧ V = [] := by
  rcases F with _ | ⟨x, F⟩
  · rcases V with _ | ⟨y, V⟩
    · exact ⟨by rw [asg], rfl, rfl⟩
    · cases h
  · cases h
theorem asg_wait (h : hdB F V = true) (hx : ¬ om (hdI F V) ≤ B) : asg om F V B = ([], F, V, B) := by
  rcases F with _ | ⟨x, F⟩
  · rcases V with _ | ⟨y, V⟩
    · cases h
    · simp only [hdI] at hx; rw [asg, if_neg hx]
  · simp only [hdI] at hx; rw [asg, if_neg hx]
theorem asg_next (h : hdB F V = true) (hx : om (hdI F V) ≤ B) : asg om F V B = ((hdI F V, hdC F V) :: (asg om (popF F) (popV F V) (B - om (hdI F V))).1, (asg om (popF F) (popV F V) (B - om (hdI F V))).2) := by
  rcases F with _ | ⟨x, F⟩
  · rcases V with _ | ⟨y, V⟩
    · cases h
    · simp only [hdI] at hx; rw [asg, if_pos hx]; rfl
  · simp only [hdI] at hx; rw [asg, if_pos hx]; rfl
theorem pop_len (h : hdB F V = true) : (popF F).length + (popV F V).length + 1 = F.length + V.length := by
  rcases F with _ | ⟨x, F⟩
  · rcases V with _ | ⟨y, V⟩
    · cases h
    · simp [popF, popV]
  · simp [popF, popV]; omega
theorem pop_le (F V : List Int) : (popF F).length ≤ F.length ∧ (popV F V).length ≤ V.length := by
  rcases F with _ | ⟨x, F⟩
  · rcases V with _ | ⟨y, V⟩ <;> simp [popF, popV]
  · simp [popF, popV]
theorem hdB_len (h : hdB F V = true) : 0 < F.length + V.length := by have := pop_len h; omega
end
/-- To show something of what is assigned: both ways to stop, and one exit more. -/
theorem asg_ind {om : Int → Int} {P : List Int → List Int → Int → List (Int × Int) × List Int × List Int × Int → Prop} (hnone : ∀ B, P [] [] B ([], [], [], B))
    (hwait : ∀ F V B, hdB F V = true → ¬ om (hdI F V) ≤ B → P F V B ([], F, V, B))
    (hnext : ∀ F V B r, hdB F V = true → om (hdI F V) ≤ B → P (popF F) (popV F V) (B - om (hdI F V)) r → P F V B ((hdI F V, hdC F V) :: r.1, r.2)) : ∀ (n : Nat) (F V : List Int) (B : Int), F.length + V.length = n → P F V B (asg om F V B) := by
  intro n
  induction n with
  | zero =>
    intro F V B h
    obtain rfl := List.eq_nil_of_length_eq_zero (show F.length = 0 by omega)
    obtain rfl := List.eq_nil_of_length_eq_zero (show V.length = 0 by omega)
    rw [(asg_none rfl).1]
    exact hnone B
  | succ n ih =>
    intro F V B h
    have hb : hdB F V = true := by
      rcases F with _ | ⟨x, F⟩
      · rcases V with _ | ⟨y, V⟩
        · simp at h
        · rfl
      · rfl
    by_cases hx : om (hdI F V) ≤ B
    · rw [asg_next hb hx]
      exact hnext F V B _ hb hx (ih _ _ _ (by have := pop_len hb; omega))
    · rw [asg_wait hb hx]
      exact hwait F V B hb hx
/-- The weights of what is assigned. -/
def sumW (om : Int → Int) : List (Int × Int) → Int
  | [] => 0
  | p :: l => om p.1 + sumW om l
section
variable {om : Int → Int}
theorem sumW_append (om : Int → Int) (l m : List (Int × Int)) : sumW om (l ++ m) = sumW om l + sumW om m := by
  induction l with
  | nil => simp [sumW]
  | cons p l ih => simp only [List.cons_append, sumW, ih]; omega
theorem sumW_nonneg (h : ∀ i, 0 ≤ om i) (l : List (Int × Int)) : 0 ≤ sumW om l := by
  induction l with
  | nil => simp [sumW]
  | cons p l ih => simp only [sumW]; have := h p.1; omega
theorem asg_sum (om : Int → Int) (F V : List Int) (B : Int) : (asg om F V B).2.2.2 = B - sumW om (asg om F V B).1 :=
  asg_ind (P := fun F V B r => r.2.2.2 = B - sumW om r.1) (fun B => by simp [sumW]) (fun F V B _ _ => by simp [sumW]) (fun F V B r _ _ h => by simp only [sumW, h]; omega) _ F V B rfl
theorem asg_fits (om : Int → Int) (F V : List Int) (B : Int) (h0 : 0 ≤ B) : 0 ≤ (asg om F V B).2.2.2 :=
  asg_ind (P := fun F V B r => 0 ≤ B → 0 ≤ r.2.2.2) (fun B h => h) (fun F V B _ _ h => h) (fun F V B r _ hx h h0 => h (by omega)) _ F V B rfl h0
/-- What stops it. -/
theorem asg_stop (om : Int → Int) (F V : List Int) (B : Int) : hdB (asg om F V B).2.1 (asg om F V B).2.2.1 = true → (asg om F V B).2.2.2 < om (hdI (asg om F V B).2.1 (asg om F V B).2.2.1) :=
  asg_ind (P := fun F V B r => hdB r.2.1 r.2.2.1 = true → r.2.2.2 < om (hdI r.2.1 r.2.2.1)) (fun B h => by cases h) (fun F V B _ hx _ => by simp only; omega) (fun F V B r _ hx h => h) _ F V B rfl
/-- What was assigned and what remains, class by class. -/
theorem asg_lists (om : Int → Int) (F V : List Int) (B : Int) : F = ((asg om F V B).1.filter (·.2 == 0)).map (·.1) ++ (asg om F V B).2.1 ∧ V = ((asg om F V B).1.filter (·.2 == 1)).map (·.1) ++ (asg om F V B).2.2.1 :=
  asg_ind (P := fun F V B r => F = (r.1.filter (·.2 == 0)).map (·.1) ++ r.2.1 ∧ V = (r.1.filter (·.2 == 1)).map (·.1) ++ r.2.2.1) (fun B => ⟨rfl, rfl⟩) (fun F V B _ hx => ⟨rfl, rfl⟩) (fun F V B r hb hx h => by
    rcases F with _ | ⟨x, F⟩
    · rcases V with _ | ⟨y, V⟩
      · cases hb
      · obtain ⟨h1, h2⟩ := h
        simp only [popF, popV, hdI, hdC] at h1 h2 ⊢
        exact ⟨by simpa using h1, by simp [List.filter_cons]; exact h2⟩
    · obtain ⟨h1, h2⟩ := h
      simp only [popF, popV, hdI, hdC] at h1 h2 ⊢
      exact ⟨by simp [List.filter_cons]; exact h1, by simpa using h2⟩) _ F V B rfl
theorem asg_class (om : Int → Int) (F V : List Int) (B : Int) : ∀ p ∈ (asg om F V B).1, p.2 = 0 ∨ p.2 = 1 :=
  asg_ind (P := fun F V B r => ∀ p ∈ r.1, p.2 = 0 ∨ p.2 = 1) (fun B p h => by simp at h) (fun F V B _ hx p h => by simp at h) (fun F V B r hb hx h p hp => by
    rcases List.mem_cons.1 hp with rfl | hp
    · rcases F with _ | ⟨x, F⟩
      · rcases V with _ | ⟨y, V⟩
        · cases hb
        · exact .inr rfl
      · exact .inl rfl
    · exact h p hp) _ F V B rfl
theorem asg_len (om : Int → Int) (F V : List Int) (B : Int) : (asg om F V B).1.length + (asg om F V B).2.1.length + (asg om F V B).2.2.1.length = F.length + V.length :=
  asg_ind (P := fun F V B r => r.1.length + r.2.1.length + r.2.2.1.length = F.length + V.length) (fun B => rfl) (fun F V B _ hx => by simp) (fun F V B r hb hx h => by have := pop_len hb; simp; omega) _ F V B rfl
/-- Voluntary exits alone: the assigned ones are the first of the queue. -/
theorem asg_vol (om : Int → Int) (V : List Int) (B : Int) : (asg om [] V B).2.1 = [] ∧ V = (asg om [] V B).1.map (·.1) ++ (asg om [] V B).2.2.1 ∧ ∀ p ∈ (asg om [] V B).1, p.2 = 1 := by
  have h0 := (asg_lists om [] V B)
  have hc := asg_class om [] V B
  obtain ⟨h1, h2⟩ := h0
  have h3 : (asg om [] V B).2.1 = [] := (List.append_eq_nil_iff.1 h1.symm).2
  have h4 : ((asg om [] V B).1.filter (·.2 == 0)) = [] := by simpa using (List.append_eq_nil_iff.1 h1.symm).1
  have h5 : ∀ p ∈ (asg om [] V B).1, p.2 = 1 := fun p hp => (hc p hp).resolve_left (fun e => by
    have := List.filter_eq_nil_iff.1 h4 p hp
    simp [e] at this)
  refine ⟨h3, ?_, h5⟩
  rwa [List.filter_eq_self.2 (fun p hp => by simp [h5 p hp])] at h2
end
end Go.Proofs.Ytjleklhajmhekaa
