/- Exits in two queues, boundary by boundary, as plain lists and numbers: what remains weighs more than the balance; the slices of assignments. (Parts after stage 13.) -/
import Derived.Test.YtjleklhajmhekaaRStep
import Derived.Test.YtjleklhajmhekaaRise
import Derived.Deep.MidRow
namespace Go.Proofs.Ytjleklhajmhekaa
open Go Go.RowKit
set_option linter.unusedVariables false
set_option linter.unusedSimpArgs false
set_option maxRecDepth 100000

theorem gr_room {B x : Int} (h : B + x ≤ 18446744073709551615) : gr B x = B + x := by
  unfold gr
  rw [if_neg (by omega)]
theorem stp_spent (om : Int → Int) (F V : List Int) (B x : Int) : gr B x - (stp om F V B x).2.2.2 = sumW om (stp om F V B x).1 := by
  have := asg_sum om F V (gr B x)
  unfold stp
  omega
def rowT (i c e : Int) : List Value := [.int .i64 i, .int .i64 c, .int .i64 e]
def cellsT (i c e : Int) : Array Value := (rowT i c e).toArray
theorem cellsT_one (i c e : Int) : (cellsT i c e).all (·.oneCell') = true := by
  refine Array.all_eq_true_iff_forall_mem.2 (fun u hu => ?_)
  have hu : u ∈ rowT i c e := by simpa [cellsT] using hu
  simp only [rowT, List.mem_cons, List.not_mem_nil, or_false] at hu
  rcases hu with rfl | rfl | rfl <;> rfl
theorem infoAd : (Try.prog.info? 52).map (·.size) = some 3 := by kernel_rfl
/-- A slice of assignments that reads as l, each to the epoch ep; its block is not one of S. -/
def AAt (w : World) (S : Nat → Prop) (a : Option Addr) (ep : Int) (l : List (Int × Int)) : Prop :=
  0 < l.length → ∃ b off, a = some ⟨b, off, none⟩ ∧ ¬ S b ∧ b < w.heap.size ∧ ∀ j p, l[j]? = some p → w.rangeAt b (off + j * 3) (rowT p.1 p.2 ep)
section
variable {w w' : World} {S T : Nat → Prop} {a : Option Addr} {ep : Int} {l : List (Int × Int)}
theorem AAt.below (h : AAt w S a ep l) (hb : Below w.heap.size w w') : AAt w' S a ep l := fun h0 => by
  obtain ⟨b, off, h1, h2, h3, h4⟩ := h h0
  exact ⟨b, off, h1, h2, Nat.lt_of_lt_of_le h3 hb.size, fun j p hp i v hv => (hb.cell (p := ⟨b, off + j * 3 + i, none⟩) h3).trans (h4 j p hp i v hv)⟩
theorem rowA_at {ep : Int} {l : List (Int × Int)} {j : Nat} {p : Int × Int} (h : l[j]? = some p) {i : Nat} (hi : i < 3) : (rowA ep l)[j * 3 + i]? = (rowT p.1 p.2 ep)[i]? := by
  induction l generalizing j with
  | nil => simp at h
  | cons x l ih =>
    have e : rowA ep (x :: l) = rowT x.1 x.2 ep ++ rowA ep l := by simp [rowA, rowT]
    rw [e]
    cases j with
    | zero =>
      simp at h
      subst h
      rw [Nat.zero_mul, Nat.zero_add, List.getElem?_append_left (by simpa [rowT] using hi)]
    | succ j =>
      simp only [List.getElem?_cons_succ] at h
      rw [List.getElem?_append_right (by simp [rowT]; omega), show (j + 1) * 3 + i - (rowT x.1 x.2 ep).length = j * 3 + i by simp [rowT]; omega]
      exact ih h
/-- An owned row of assignments reads so. -/
theorem asg_of_owns {e : TypeId} {base n c : Nat} (h : w.ownsRow base e 3 (.slice a n c) n (rowA ep l)) (hn : n = l.length) (hS : ∀ i, (Value.slice a n c).ownBlock = some i → ¬ S i) : AAt w S a ep l := fun h0 => by
  rcases h.2 with ⟨e1, e2⟩ | ⟨g, cp, cur, e1, h1, h3, _⟩
  · injection e1 with _ e3 _
    omega
  · injection e1 with e1 _ e3
    subst e1 e3
    refine ⟨g, 0, rfl, hS g rfl, (Array.getElem?_eq_some_iff.1 h3).1, fun j p hp i v hv => ?_⟩
    have hi : i < 3 := (List.getElem?_eq_some_iff.1 hv).1
    have := h.cells (g := g) rfl (j * 3 + i) v ((rowA_at hp hi).trans hv)
    rw [add_plain] at this
    simpa [Nat.add_assoc] using this
end
section
variable {w : World} {S : Nat → Prop} {L : List Int} {a : Option Addr} {n : Nat}
theorem amts_of_owns {base n : Nat} {v : Value} (h : w.ownsRow base 22 1 v n (L.map (Value.int .u64))) (hS : ∀ i, v.ownBlock = some i → ¬ S i) : ∃ a cp, v = .slice a n cp ∧ L.length = n ∧ n ≤ cp ∧ UAt w S a L := by
  have hl := h.1
  rw [List.length_map, Nat.mul_one] at hl
  rcases h.2 with ⟨rfl, h2⟩ | ⟨g, cp, cur, rfl, h1, h3, h4, h5, h6, h7⟩
  · subst h2
    obtain rfl := List.eq_nil_of_length_eq_zero hl
    exact ⟨none, 0, rfl, rfl, by omega, UAt.nil _ _ _⟩
  · refine ⟨_, cp, rfl, hl, h4, fun h0 => ⟨g, 0, rfl, hS g rfl, (Array.getElem?_eq_some_iff.1 h3).1, fun j hj => ?_⟩⟩
    have := h.cells (g := g) rfl j (.int .u64 (L.getD j 0)) (by rw [List.getElem?_map, List.getD_eq_getElem?_getD, List.getElem?_eq_getElem hj]; rfl)
    rwa [add_plain] at this
end

def sumI (om : Int → Int) : List Int → Int
  | [] => 0
  | i :: l => om i + sumI om l
theorem sumI_append (om : Int → Int) (l m : List Int) : sumI om (l ++ m) = sumI om l + sumI om m := by
  induction l with
  | nil => simp [sumI]
  | cons i l ih => simp only [List.cons_append, sumI, ih]; omega
theorem sumI_nonneg {om : Int → Int} (h : ∀ i, 0 ≤ om i) (l : List Int) : 0 ≤ sumI om l := by
  induction l with
  | nil => simp [sumI]
  | cons i l ih => simp only [sumI]; have := h i; omega
theorem sumI_congr {om on : Int → Int} {l : List Int} (h : ∀ i ∈ l, om i = on i) : sumI om l = sumI on l := by
  induction l with
  | nil => rfl
  | cons i l ih => simp only [sumI]; rw [h i (by simp), ih (fun j hj => h j (by simp [hj]))]
/-- What was in the queues is what is assigned and what remains. -/
theorem asg_total (om : Int → Int) (F V : List Int) (B : Int) : sumI om F + sumI om V = sumW om (asg om F V B).1 + (sumI om (asg om F V B).2.1 + sumI om (asg om F V B).2.2.1) :=
  asg_ind (P := fun F V B r => sumI om F + sumI om V = sumW om r.1 + (sumI om r.2.1 + sumI om r.2.2.1)) (fun B => by simp [sumI, sumW]) (fun F V B _ _ => by simp [sumW]) (fun F V B r hb _ h => by
    rcases F with _ | ⟨x, F⟩
    · rcases V with _ | ⟨y, V⟩
      · cases hb
      · simp only [popF, popV, hdI, sumI, sumW] at h ⊢
        omega
    · simp only [popF, popV, hdI, sumI, sumW] at h ⊢
      omega) _ F V B rfl
theorem hd_le {om : Int → Int} (ho : ∀ i, 0 ≤ om i) {F V : List Int} (h : hdB F V = true) : om (hdI F V) ≤ sumI om F + sumI om V := by
  rcases F with _ | ⟨x, F⟩
  · rcases V with _ | ⟨y, V⟩
    · cases h
    · have := sumI_nonneg ho V
      simp only [hdI, sumI]; omega
  · have := sumI_nonneg ho V
    have := sumI_nonneg ho F
    simp only [hdI, sumI]; omega
theorem wOf_old {L : List Int} {x i : Int} (h0 : 0 ≤ i) (h1 : i < (L.length : Int)) : wOf (L ++ [x]) i = wOf L i := by
  obtain ⟨k, rfl⟩ : ∃ k : Nat, i = k := ⟨i.toNat, by omega⟩
  rw [wOf_in (by simp; omega), wOf_in (by omega), List.getD_eq_getElem?_getD, List.getD_eq_getElem?_getD, List.getElem?_append_left (by omega)]
theorem wOf_new (L : List Int) (x : Int) : wOf (L ++ [x]) (L.length : Int) = x := by
  rw [wOf_in (by simp)]
  simp [List.getD_eq_getElem?_getD]
/-- The indices of both queues are those of weights; their weights add up to R. -/
structure Pl (L F V : List Int) (R : Int) : Prop where
  fi : ∀ i ∈ F, 0 ≤ i ∧ i < (L.length : Int)
  vi : ∀ i ∈ V, 0 ≤ i ∧ i < (L.length : Int)
  sum : sumI (wOf L) F + sumI (wOf L) V = R
  len : F.length + V.length ≤ L.length
section
variable {L F V : List Int} {R x : Int}
theorem Pl.nil : Pl [] [] [] 0 := ⟨fun i h => by simp at h, fun i h => by simp at h, by simp [sumI], by simp⟩
theorem Pl.more (h : Pl L F V R) (x : Int) : sumI (wOf (L ++ [x])) F = sumI (wOf L) F ∧ sumI (wOf (L ++ [x])) V = sumI (wOf L) V :=
  ⟨sumI_congr fun i hi => wOf_old (h.fi i hi).1 (h.fi i hi).2, sumI_congr fun i hi => wOf_old (h.vi i hi).1 (h.vi i hi).2⟩
theorem Pl.push0 (h : Pl L F V R) (x : Int) : Pl (L ++ [x]) (F ++ [(L.length : Int)]) V (R + x) := by
  have hs := h.sum
  have hm := h.more x
  refine ⟨fun i hi => ?_, fun i hi => by have := h.vi i hi; simp; omega, ?_, by have := h.len; simp; omega⟩
  · rcases List.mem_append.1 hi with hi | hi
    · have := h.fi i hi; simp; omega
    · simp at hi; subst hi; simp; omega
  · rw [sumI_append, hm.1, hm.2]
    simp only [sumI]
    rw [wOf_new]
    omega
theorem Pl.push1 (h : Pl L F V R) (x : Int) : Pl (L ++ [x]) F (V ++ [(L.length : Int)]) (R + x) := by
  have hs := h.sum
  have hm := h.more x
  refine ⟨fun i hi => by have := h.fi i hi; simp; omega, fun i hi => ?_, ?_, by have := h.len; simp; omega⟩
  · rcases List.mem_append.1 hi with hi | hi
    · have := h.vi i hi; simp; omega
    · simp at hi; subst hi; simp; omega
  · rw [sumI_append, hm.1, hm.2]
    simp only [sumI]
    rw [wOf_new]
    omega
/-- A weight of at most 255. -/
def Low (L : List Int) : Prop := ∀ j, 0 ≤ L.getD j 0 ∧ L.getD j 0 ≤ 255
theorem Low.amts (h : Low L) : Amts L := fun j => ⟨(h j).1, by have := (h j).2; omega⟩
theorem Low.wof (h : Low L) (i : Int) : 0 ≤ wOf L i ∧ wOf L i ≤ 255 := by
  unfold wOf
  split
  · exact h _
  · exact ⟨by decide, by decide⟩
theorem Low.nil : Low [] := fun j => by simp
theorem Low.snoc (h : Low L) (h0 : 0 ≤ x) (h1 : x ≤ 255) : Low (L ++ [x]) := fun j => by
  rw [List.getD_eq_getElem?_getD]
  rcases Nat.lt_or_ge j L.length with hj | hj
  · rw [List.getElem?_append_left hj, ← List.getD_eq_getElem?_getD]
    exact h j
  · rw [List.getElem?_append_right hj]
    rcases Nat.eq_zero_or_pos (j - L.length) with h2 | h2
    · rw [h2]; simp; omega
    · rw [List.getElem?_eq_none (by simp; omega)]; simp
/-- A boundary that does not assign the exit leaves more weight than balance. -/
theorem round_end {B m own : Int} (hL : Low L) (pl : Pl L F V R) (ho : own ∈ V) (B0 : 0 ≤ B) (m0 : 0 ≤ m) (hB : B + m ≤ 18446744073709551615) (hno : ∀ p ∈ (stp (wOf L) F V B m).1, p.1 ≠ own) :
    own ∈ (stp (wOf L) F V B m).2.2.1 ∧ ∃ R', Pl L (stp (wOf L) F V B m).2.1 (stp (wOf L) F V B m).2.2.1 R' ∧ R' - balOf (stp (wOf L) F V B m) = R - B - m ∧
      0 ≤ balOf (stp (wOf L) F V B m) ∧ balOf (stp (wOf L) F V B m) ≤ 255 ∧ balOf (stp (wOf L) F V B m) < R' := by
  have hgr := gr_room hB
  have hom : ∀ i, 0 ≤ wOf L i := fun i => (hL.wof i).1
  obtain ⟨l1, l2⟩ := asg_lists (wOf L) F V (gr B m)
  have hs := asg_sum (wOf L) F V (gr B m)
  have hf := asg_fits (wOf L) F V (gr B m) (by omega)
  have hst := asg_stop (wOf L) F V (gr B m)
  have ht := asg_total (wOf L) F V (gr B m)
  have hlen := asg_len (wOf L) F V (gr B m)
  have hpl := pl.sum
  have hpn := pl.len
  change F = ((stp (wOf L) F V B m).1.filter (·.2 == 0)).map (·.1) ++ (stp (wOf L) F V B m).2.1 at l1
  change V = ((stp (wOf L) F V B m).1.filter (·.2 == 1)).map (·.1) ++ (stp (wOf L) F V B m).2.2.1 at l2
  change (stp (wOf L) F V B m).2.2.2 = gr B m - sumW (wOf L) (stp (wOf L) F V B m).1 at hs
  change 0 ≤ (stp (wOf L) F V B m).2.2.2 at hf
  change hdB (stp (wOf L) F V B m).2.1 (stp (wOf L) F V B m).2.2.1 = true → (stp (wOf L) F V B m).2.2.2 < wOf L (hdI (stp (wOf L) F V B m).2.1 (stp (wOf L) F V B m).2.2.1) at hst
  change sumI (wOf L) F + sumI (wOf L) V = sumW (wOf L) (stp (wOf L) F V B m).1 + (sumI (wOf L) (stp (wOf L) F V B m).2.1 + sumI (wOf L) (stp (wOf L) F V B m).2.2.1) at ht
  change (stp (wOf L) F V B m).1.length + (stp (wOf L) F V B m).2.1.length + (stp (wOf L) F V B m).2.2.1.length = F.length + V.length at hlen
  generalize stp (wOf L) F V B m = r at *
  obtain ⟨out, F', V', E⟩ := r
  dsimp only at *
  have hV : own ∈ V' := by
    rw [l2] at ho
    rcases List.mem_append.1 ho with h | h
    · obtain ⟨p, hp, e⟩ := List.mem_map.1 h
      exact absurd e (hno p (List.mem_filter.1 hp).1)
    · exact h
  have hb : hdB F' V' = true := by
    rcases F' with _ | ⟨x, F'⟩
    · rcases V' with _ | ⟨y, V'⟩
      · simp at hV
      · rfl
    · rfl
  have e1 : balOf (out, F', V', E) = E := by rw [balOf, if_pos hb]
  rw [e1]
  have h1 := hst hb
  have h2 := hd_le hom hb
  have h3 := (hL.wof (hdI F' V')).2
  refine ⟨hV, sumI (wOf L) F' + sumI (wOf L) V', ⟨fun i hi => pl.fi i (by rw [l1]; exact List.mem_append_right _ hi), fun i hi => pl.vi i (by rw [l2]; exact List.mem_append_right _ hi), rfl, by omega⟩, by omega, hf, by omega, by omega⟩
end
end Go.Proofs.Ytjleklhajmhekaa
