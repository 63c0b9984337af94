/- A receipt's line as a plain function; equal receipts; the line tells ticks apart. -/
import Derived.Test.YtjbbcnepeffiaaaDoorRc
import Derived.Test.YtjbbcnepeffiaaaDoorGw
namespace Go.Proofs.YtjbbcnepeffiaaaDoor
open Go Go.RowKit
set_option linter.unusedVariables false
set_option linter.unusedSimpArgs false
set_option maxRecDepth 100000

def bs (l : List UInt8) : ByteArray := ⟨l.toArray⟩
theorem bs_append (a b : List UInt8) : bs a ++ bs b = bs (a ++ b) := bytes_append a b
theorem bs_list (l : List UInt8) : (bs l).data.toList = l := rfl
theorem bs_size (l : List UInt8) : (bs l).size = l.length := by simp [bs, ByteArray.size]
/-- malformed -/
def malL : List UInt8 := [109, 97, 108, 102, 111, 114, 109, 101, 100]
/-- The name of a kind, or malformed. -/
def kindL (k : Int) : List UInt8 := if 1 ≤ k ∧ k ≤ 7 then (nm (k - 1).toNat).data.toList else malL
def itoaB (x : Int) : ByteArray := bs (Lib.itoa x)
def letL (c : Int) : List UInt8 := if c = 0 then [102] else [118]
def markL (f : Bool) : List UInt8 := if f = true then [33] else []
def asgL (a : As) : List UInt8 := [32] ++ Lib.itoa a.ix ++ letL a.cl ++ [64] ++ Lib.itoa a.ep
def payL (p : Pm) : List UInt8 := [32] ++ Lib.itoa p.ix ++ [43] ++ Lib.decDigits p.am.toNat ++ markL p.fl
def asgsL (l : List As) : List UInt8 := l.flatMap asgL
def paysL (l : List Pm) : List UInt8 := l.flatMap payL
/-- "error ", "block ", " epoch ", " visits ", "ok ", " by " -/
def errS : List UInt8 := [101, 114, 114, 111, 114, 32]
def blkS : List UInt8 := [98, 108, 111, 99, 107, 32]
def epoS : List UInt8 := [32, 101, 112, 111, 99, 104, 32]
def visS : List UInt8 := [32, 118, 105, 115, 105, 116, 115, 32]
def okS : List UInt8 := [111, 107, 32]
def byS : List UInt8 := [32, 98, 121, 32]
def headL (r : Rc) : List UInt8 := kindL r.kd ++ [32]
def tickL (r : Rc) : List UInt8 := blkS ++ Lib.itoa r.bl ++ epoS ++ Lib.itoa r.ep ++ visS ++ Lib.itoa r.vs
def elseL (r : Rc) : List UInt8 := okS ++ Lib.itoa r.ix ++ if r.dl = -1 then [] else byS ++ Lib.itoa r.dl
/-- P21.4. -/
def lineL (r : Rc) (la : List As) (lp : List Pm) : List UInt8 :=
  headL r ++ if r.cd = 0 then (if r.kd = 7 then tickL r ++ asgsL la ++ paysL lp else elseL r) else errS ++ Lib.itoa r.cd
/-- P21.1. -/
def sameB (x y : Rc) (la lb : List As) (lp lq : List Pm) : Bool :=
  decide (x.kd = y.kd ∧ x.cd = y.cd ∧ x.ix = y.ix ∧ x.bl = y.bl ∧ x.ep = y.ep ∧ x.dl = y.dl ∧ x.vs = y.vs ∧ la = lb ∧ lp = lq)
theorem sameB_self (x : Rc) (la : List As) (lp : List Pm) : sameB x x la la lp lp = true := by simp [sameB]

theorem asgsL_snoc {l : List As} {j : Nat} {x : As} (h : l[j]? = some x) : asgsL (l.take (j + 1)) = asgsL (l.take j) ++ asgL x := by
  unfold asgsL
  rw [List.take_add_one, h, List.flatMap_append]
  simp
theorem paysL_snoc {l : List Pm} {j : Nat} {x : Pm} (h : l[j]? = some x) : paysL (l.take (j + 1)) = paysL (l.take j) ++ payL x := by
  unfold paysL
  rw [List.take_add_one, h, List.flatMap_append]
  simp

/-! ### numerals, and what stands behind them -/
theorem digit_byte (d : Nat) (h : d < 10) : (UInt8.ofNat (48 + d)).toNat = 48 + d := by
  rw [UInt8.toNat_ofNat']; omega
/-- A digit or a minus sign. -/
def Num (c : UInt8) : Prop := (48 ≤ c.toNat ∧ c.toNat ≤ 57) ∨ c = 45
theorem dec_num (u : Nat) : ∀ c ∈ Lib.decDigits u, 48 ≤ c.toNat ∧ c.toNat ≤ 57 := by
  induction u using Nat.strongRecOn with
  | _ u ih =>
    by_cases h : u < 10
    · rw [Lib.decDigits_one h]
      intro c hc
      have := digit_byte u h
      rw [List.mem_singleton.1 hc]
      omega
    · rw [dec_big h]
      intro c hc
      rcases List.mem_append.1 hc with hc | hc
      · exact ih (u / 10) (by omega) c hc
      · have := digit_byte (u % 10) (by omega)
        rw [List.mem_singleton.1 hc]
        omega
theorem itoa_num (x : Int) : ∀ c ∈ Lib.itoa x, Num c := by
  intro c hc
  unfold Lib.itoa at hc
  split at hc
  · rcases List.mem_cons.1 hc with h | h
    · exact .inr h
    · exact .inl (dec_num _ c h)
  · exact .inl (dec_num _ c hc)
/-- The value of a row of digits. -/
def valD (l : List UInt8) : Nat := l.foldl (fun n c => 10 * n + (c.toNat - 48)) 0
theorem valD_snoc (l : List UInt8) (c : UInt8) : valD (l ++ [c]) = 10 * valD l + (c.toNat - 48) := by simp [valD]
theorem valD_dec (u : Nat) : valD (Lib.decDigits u) = u := by
  induction u using Nat.strongRecOn with
  | _ u ih =>
    by_cases h : u < 10
    · rw [Lib.decDigits_one h]
      have := digit_byte u h
      simp only [valD, List.foldl_cons, List.foldl_nil]
      omega
    · have := digit_byte (u % 10) (by omega)
      rw [dec_big h, valD_snoc, ih (u / 10) (by omega), this]
      omega
theorem dec_inj {a b : Nat} (h : Lib.decDigits a = Lib.decDigits b) : a = b := by rw [← valD_dec a, h, valD_dec]
theorem itoa_inj {x y : Int} (h : Lib.itoa x = Lib.itoa y) : x = y := by
  unfold Lib.itoa at h
  have no : ∀ (a : Nat) (l : List UInt8), Lib.decDigits a = 45 :: l → False := fun a l e => by
    have := dec_num a 45 (by rw [e]; simp)
    have e2 : (45 : UInt8).toNat = 45 := rfl
    omega
  split at h <;> split at h
  · injection h with _ h
    have := dec_inj h
    omega
  · exact (no _ _ h.symm).elim
  · exact (no _ _ h).elim
  · have := dec_inj h
    omega
/-- What stands behind a numeral: nothing, or a byte that is none of it. -/
def Off : List UInt8 → Prop
  | [] => True
  | c :: _ => ¬ Num c
theorem num_cut {x y r s : List UInt8} (hx : ∀ c ∈ x, Num c) (hy : ∀ c ∈ y, Num c) (hr : Off r) (hs : Off s) (h : x ++ r = y ++ s) : x = y ∧ r = s := by
  induction x generalizing y with
  | nil =>
    cases y with
    | nil => exact ⟨rfl, h⟩
    | cons c y =>
      simp only [List.nil_append, List.cons_append] at h
      subst h
      exact absurd (hy c (by simp)) hr
  | cons d x ih =>
    cases y with
    | nil =>
      simp only [List.nil_append, List.cons_append] at h
      subst h
      exact absurd (hx d (by simp)) hs
    | cons c y =>
      simp only [List.cons_append, List.cons.injEq] at h
      obtain ⟨rfl, h⟩ := h
      obtain ⟨h1, h2⟩ := ih (fun c hc => hx c (by simp [hc])) (fun c hc => hy c (by simp [hc])) h
      exact ⟨by rw [h1], h2⟩
theorem itoa_cut {x y : Int} {r s : List UInt8} (hr : Off r) (hs : Off s) (h : Lib.itoa x ++ r = Lib.itoa y ++ s) : x = y ∧ r = s := by
  obtain ⟨h1, h2⟩ := num_cut (itoa_num x) (itoa_num y) hr hs h
  exact ⟨itoa_inj h1, h2⟩
theorem dec_cut {x y : Nat} {r s : List UInt8} (hr : Off r) (hs : Off s) (h : Lib.decDigits x ++ r = Lib.decDigits y ++ s) : x = y ∧ r = s := by
  obtain ⟨h1, h2⟩ := num_cut (fun c hc => .inl (dec_num x c hc)) (fun c hc => .inl (dec_num y c hc)) hr hs h
  exact ⟨dec_inj h1, h2⟩
theorem off_cons {c : UInt8} {l : List UInt8} (h1 : c.toNat < 48 ∨ 57 < c.toNat) (h2 : c ≠ 45) : Off (c :: l) := fun h => by
  rcases h with h | h
  · omega
  · exact h2 h
theorem off32 (l : List UInt8) : Off (32 :: l) := off_cons (by decide) (by decide)
theorem off_epo (l : List UInt8) : Off (epoS ++ l) := off32 _
theorem off_vis (l : List UInt8) : Off (visS ++ l) := off32 _
theorem off43 (l : List UInt8) : Off (43 :: l) := off_cons (by decide) (by decide)
theorem off33 (l : List UInt8) : Off (33 :: l) := off_cons (by decide) (by decide)
theorem off_let (c : Int) (l : List UInt8) : Off (letL c ++ l) := by
  unfold letL
  split
  · exact off_cons (by decide) (by decide)
  · exact off_cons (by decide) (by decide)
theorem asgL_eq (a : As) (l : List UInt8) : asgL a ++ l = 32 :: (Lib.itoa a.ix ++ (letL a.cl ++ 64 :: (Lib.itoa a.ep ++ l))) := by simp [asgL]
theorem payL_eq (p : Pm) (l : List UInt8) : payL p ++ l = 32 :: (Lib.itoa p.ix ++ 43 :: (Lib.decDigits p.am.toNat ++ (markL p.fl ++ l))) := by simp [payL]
theorem paysL_cons (p : Pm) (l : List Pm) : paysL (p :: l) = payL p ++ paysL l := rfl
theorem asgsL_cons (a : As) (l : List As) : asgsL (a :: l) = asgL a ++ asgsL l := rfl
theorem off_pays (l : List Pm) : Off (paysL l) := by
  cases l with
  | nil => trivial
  | cons p l => rw [paysL_cons, payL_eq]; exact off32 _
theorem off_tail (l : List As) (m : List Pm) : Off (asgsL l ++ paysL m) := by
  cases l with
  | nil => exact off_pays m
  | cons a l => rw [asgsL_cons, List.append_assoc, asgL_eq]; exact off32 _
theorem off_mark (f : Bool) {l : List UInt8} (h : Off l) : Off (markL f ++ l) := by
  unfold markL
  split
  · exact off33 _
  · exact h
theorem mark_cut {f g : Bool} {r s : List Pm} (h : markL f ++ paysL r = markL g ++ paysL s) : f = g ∧ paysL r = paysL s := by
  have no : ∀ (l : List Pm) (m : List UInt8), paysL l ≠ 33 :: m := fun l m e => by
    cases l with
    | nil => simp [paysL] at e
    | cons p l => rw [paysL_cons, payL_eq] at e; simp at e
  cases f <;> cases g <;> simp [markL] at h
  · exact ⟨rfl, h⟩
  · exact (no _ _ h).elim
  · exact (no _ _ h.symm).elim
  · exact ⟨rfl, h⟩
theorem pays_inj : ∀ (l m : List Pm), (∀ x ∈ l, FitsPm x) → (∀ x ∈ m, FitsPm x) → paysL l = paysL m → l = m
  | [], [], _, _, _ => rfl
  | [], q :: m, _, _, h => by rw [paysL_cons, payL_eq] at h; simp [paysL] at h
  | p :: l, [], _, _, h => by rw [paysL_cons, payL_eq] at h; simp [paysL] at h
  | p :: l, q :: m, hl, hm, h => by
    rw [paysL_cons, paysL_cons, payL_eq, payL_eq] at h
    injection h with _ h
    obtain ⟨h1, h⟩ := itoa_cut (off43 _) (off43 _) h
    injection h with _ h
    obtain ⟨h2, h⟩ := dec_cut (off_mark _ (off_pays _)) (off_mark _ (off_pays _)) h
    obtain ⟨h3, h⟩ := mark_cut h
    have e := pays_inj l m (fun x hx => hl x (by simp [hx])) (fun x hx => hm x (by simp [hx])) h
    have a1 := u64_of (hl p (by simp)).2
    have a2 := u64_of (hm q (by simp)).2
    have h4 : p.am = q.am := by omega
    clear h2 a1 a2 h
    subst e
    obtain ⟨p1, p2, p3⟩ := p
    obtain ⟨q1, q2, q3⟩ := q
    simp only at h1 h4 h3
    subst h1 h4 h3
    rfl
/-- The class of an assignment is Forced or Voluntary. -/
def Cls (a : As) : Prop := a.cl = 0 ∨ a.cl = 1
theorem let_cut {c d : Int} {r s : List UInt8} (hc : c = 0 ∨ c = 1) (hd : d = 0 ∨ d = 1) (h : letL c ++ 64 :: r = letL d ++ 64 :: s) : c = d ∧ r = s := by
  rcases hc with rfl | rfl <;> rcases hd with rfl | rfl <;> simp [letL] at h ⊢ <;> exact h
theorem pay_asg {p : Pm} {a : As} {r s : List UInt8} (h : payL p ++ r = asgL a ++ s) : False := by
  rw [payL_eq, asgL_eq] at h
  injection h with _ h
  obtain ⟨_, h⟩ := itoa_cut (off43 _) (off_let _ _) h
  unfold letL at h
  split at h <;> simp at h
theorem tail_inj : ∀ (la lb : List As) (lp lq : List Pm), (∀ x ∈ la, Cls x) → (∀ x ∈ lb, Cls x) → (∀ x ∈ lp, FitsPm x) → (∀ x ∈ lq, FitsPm x) → asgsL la ++ paysL lp = asgsL lb ++ paysL lq → la = lb ∧ lp = lq
  | [], [], lp, lq, _, _, h1, h2, h => ⟨rfl, pays_inj lp lq h1 h2 h⟩
  | [], b :: lb, lp, lq, _, _, _, _, h => by
    rw [asgsL_cons, List.append_assoc] at h
    cases lp with
    | nil => rw [asgL_eq] at h; simp [asgsL, paysL] at h
    | cons p lp =>
      rw [show asgsL [] = [] from rfl, List.nil_append, paysL_cons] at h
      exact (pay_asg h).elim
  | a :: la, [], lp, lq, _, _, _, _, h => by
    rw [asgsL_cons, List.append_assoc] at h
    cases lq with
    | nil => rw [asgL_eq] at h; simp [asgsL, paysL] at h
    | cons p lp =>
      rw [show asgsL [] = [] from rfl, List.nil_append, paysL_cons] at h
      exact (pay_asg h.symm).elim
  | a :: la, b :: lb, lp, lq, c1, c2, f1, f2, h => by
    rw [asgsL_cons, asgsL_cons, List.append_assoc, List.append_assoc, asgL_eq, asgL_eq] at h
    injection h with _ h
    obtain ⟨h1, h⟩ := itoa_cut (off_let _ _) (off_let _ _) h
    obtain ⟨h2, h⟩ := let_cut (c1 a (by simp)) (c2 b (by simp)) h
    obtain ⟨h3, h⟩ := itoa_cut (off_tail _ _) (off_tail _ _) h
    obtain ⟨e1, e2⟩ := tail_inj la lb lp lq (fun x hx => c1 x (by simp [hx])) (fun x hx => c2 x (by simp [hx])) f1 f2 h
    subst e1 e2
    obtain ⟨a1, a2, a3⟩ := a
    obtain ⟨b1, b2, b3⟩ := b
    simp only at h1 h2 h3
    subst h1 h2 h3
    exact ⟨rfl, rfl⟩
theorem tickL_eq (r : Rc) (l : List UInt8) : tickL r ++ l = blkS ++ (Lib.itoa r.bl ++ (epoS ++ (Lib.itoa r.ep ++ (visS ++ (Lib.itoa r.vs ++ l))))) := by simp [tickL]
/-- Two ticks' lines are alike just where the receipts are the same. -/
theorem line_same {x y : Rc} {la lb : List As} {lp lq : List Pm} (hx : x.kd = 7 ∧ x.cd = 0 ∧ x.ix = -1 ∧ x.dl = -1) (hy : y.kd = 7 ∧ y.cd = 0 ∧ y.ix = -1 ∧ y.dl = -1)
    (c1 : ∀ a ∈ la, Cls a) (c2 : ∀ a ∈ lb, Cls a) (f1 : ∀ p ∈ lp, FitsPm p) (f2 : ∀ p ∈ lq, FitsPm p) : decide (lineL x la lp = lineL y lb lq) = sameB x y la lb lp lq := by
  obtain ⟨x1, x2, x3, x4⟩ := hx
  obtain ⟨y1, y2, y3, y4⟩ := hy
  rw [Bool.eq_iff_iff, sameB, decide_eq_true_eq, decide_eq_true_eq]
  constructor
  · intro h
    unfold lineL headL at h
    rw [if_pos x2, if_pos x1, if_pos y2, if_pos y1, x1, y1] at h
    have h := List.append_cancel_left h
    rw [List.append_assoc, List.append_assoc, tickL_eq, tickL_eq] at h
    have h := List.append_cancel_left h
    obtain ⟨e1, h⟩ := itoa_cut (off_epo _) (off_epo _) h
    have h := List.append_cancel_left h
    obtain ⟨e2, h⟩ := itoa_cut (off_vis _) (off_vis _) h
    have h := List.append_cancel_left h
    obtain ⟨e3, h⟩ := itoa_cut (off_tail _ _) (off_tail _ _) h
    obtain ⟨e4, e5⟩ := tail_inj la lb lp lq c1 c2 f1 f2 h
    exact ⟨by rw [x1, y1], by rw [x2, y2], by rw [x3, y3], e1, e2, by rw [x4, y4], e3, e4, e5⟩
  · rintro ⟨e1, e2, e3, e4, e5, e6, e7, rfl, rfl⟩
    unfold lineL headL tickL
    rw [if_pos x2, if_pos x1, if_pos y2, if_pos y1, e1, e4, e5, e7]
theorem kindL_ne (k : Int) : kindL k ≠ [] := by
  unfold kindL
  split
  · intro h
    have := nm_ne_empty (k - 1).toNat (by omega)
    apply this
    show (nm (k - 1).toNat).data.size = 0
    rw [← Array.length_toList, h]
    rfl
  · decide
end Go.Proofs.YtjbbcnepeffiaaaDoor
