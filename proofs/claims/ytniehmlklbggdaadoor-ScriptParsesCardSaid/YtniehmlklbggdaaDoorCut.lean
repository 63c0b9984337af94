/- Strings cut at a byte, as plain functions on lists of bytes. No program in sight. -/
import Derived.Lib.Bytealg
namespace Go.Proofs.YtniehmlklbggdaaDoor
open Go

/-- The parts of l between bytes c; acc is what the first one has already. -/
def spl (c : UInt8) : List UInt8 → List UInt8 → List (List UInt8)
  | acc, [] => [acc]
  | acc, x :: l => if x = c then acc :: spl c [] l else spl c (acc ++ [x]) l
/-- What stands before the first c and what stands behind it. -/
def cutP (c : UInt8) : List UInt8 → List UInt8 × List UInt8
  | [] => ([], [])
  | x :: l => if x = c then ([], l) else (x :: (cutP c l).1, (cutP c l).2)
variable {c : UInt8}
theorem spl_go : ∀ (x acc y : List UInt8), c ∉ x → spl c acc (x ++ y) = spl c (acc ++ x) y
  | [], acc, y, _ => by simp
  | a :: x, acc, y, h => by
    simp only [List.mem_cons, not_or] at h
    rw [List.cons_append, spl, if_neg (fun e => h.1 e.symm), spl_go x _ y h.2]
    simp
theorem spl_cut {x : List UInt8} (h : c ∉ x) (acc y : List UInt8) : spl c acc (x ++ c :: y) = (acc ++ x) :: spl c [] y := by
  rw [spl_go x acc _ h, spl, if_pos rfl]
theorem spl_end {x : List UInt8} (h : c ∉ x) (acc : List UInt8) : spl c acc x = [acc ++ x] := by
  have := spl_go x acc [] h
  rwa [List.append_nil, spl] at this
theorem spl_two : ∀ (a acc b : List UInt8), spl c acc (a ++ c :: b) = spl c acc a ++ spl c [] b
  | [], acc, b => by simp [spl]
  | x :: a, acc, b => by
    rw [List.cons_append, spl, spl]
    split
    · rw [spl_two a [] b, List.cons_append]
    · exact spl_two a _ b
theorem spl_len : ∀ (l acc : List UInt8), (spl c acc l).length = l.count c + 1
  | [], acc => rfl
  | x :: l, acc => by
    rw [spl, List.count_cons]
    split
    · rename_i e
      simp [spl_len l [], e]
    · rename_i e
      rw [spl_len l _, if_neg (by simpa using e)]
theorem spl_join : ∀ (l acc w : List UInt8) (ws : List (List UInt8)), spl c acc l = w :: ws → acc ++ l = w ++ ws.flatMap (c :: ·)
  | [], acc, w, ws, h => by
    simp only [spl, List.cons.injEq] at h
    obtain ⟨rfl, rfl⟩ := h
    simp
  | x :: l, acc, w, ws, h => by
    rw [spl] at h
    split at h
    · rename_i e
      simp only [List.cons.injEq] at h
      obtain ⟨rfl, h⟩ := h
      match ws, h with
      | [], h => have := spl_len (c := c) l []; rw [h] at this; simp at this
      | v :: vs, h =>
        have := spl_join l [] v vs h
        simp only [List.nil_append] at this
        simp [this, e]
    · have := spl_join l _ w ws h
      rw [← this]
      simp
theorem spl_ne (l acc : List UInt8) : ∃ w ws, spl c acc l = w :: ws := by
  match h : spl c acc l with
  | [] => have := spl_len (c := c) l acc; rw [h] at this; simp at this
  | w :: ws => exact ⟨w, ws, rfl⟩
theorem spl_words : ∀ (ws : List (List UInt8)) (w acc : List UInt8), c ∉ w → (∀ v ∈ ws, c ∉ v) → spl c acc (w ++ ws.flatMap (c :: ·)) = (acc ++ w) :: ws
  | [], w, acc, h, _ => by simpa using spl_end h acc
  | v :: vs, w, acc, h, hs => by
    rw [List.flatMap_cons, List.cons_append, spl_cut h, spl_words vs v [] (hs v (by simp)) (fun u hu => hs u (by simp [hu]))]
    simp
theorem cutP_cut : ∀ {x : List UInt8}, c ∉ x → ∀ (y : List UInt8), cutP c (x ++ c :: y) = (x, y)
  | [], _, y => by simp [cutP]
  | a :: x, h, y => by
    simp only [List.mem_cons, not_or] at h
    rw [List.cons_append, cutP, if_neg (fun e => h.1 e.symm), cutP_cut h.2]
theorem cutP_end : ∀ {x : List UInt8}, c ∉ x → cutP c x = (x, [])
  | [], _ => rfl
  | a :: x, h => by
    simp only [List.mem_cons, not_or] at h
    rw [cutP, if_neg (fun e => h.1 e.symm), cutP_end h.2]
theorem index_lt : ∀ {l : List UInt8}, Lib.indexByte l c < l.length
  | [] => by simp [Lib.indexByte]
  | x :: l => by
    have := index_lt (l := l)
    unfold Lib.indexByte
    simp only [List.length_cons]
    split
    · omega
    · split
      · omega
      · omega
theorem index_no : ∀ {l : List UInt8}, Lib.indexByte l c = -1 → c ∉ l
  | [], _ => by simp
  | x :: l, h => by
    have hg := Lib.indexByte_ge l c
    unfold Lib.indexByte at h
    split at h
    · cases h
    · rename_i hx
      split at h
      · rename_i h2
        simp only [List.mem_cons, not_or]
        exact ⟨fun e => hx (by simp [e]), index_no (by simpa using h2)⟩
      · omega
theorem index_yes : ∀ {l : List UInt8} {i : Nat}, Lib.indexByte l c = (i : Int) → l = l.take i ++ c :: l.drop (i + 1) ∧ c ∉ l.take i
  | [], i, h => by simp [Lib.indexByte] at h
  | x :: l, i, h => by
    have hg := Lib.indexByte_ge l c
    unfold Lib.indexByte at h
    split at h
    · rename_i hx
      obtain rfl : i = 0 := by omega
      simp at hx
      simp [hx]
    · rename_i hx
      split at h
      · omega
      · rename_i h2
        have h3 : Lib.indexByte l c ≠ -1 := by simpa using h2
        obtain ⟨j, rfl⟩ : ∃ j, i = j + 1 := ⟨i - 1, by omega⟩
        have hj : Lib.indexByte l c = (j : Int) := by omega
        obtain ⟨h1, h2⟩ := index_yes hj
        simp only [List.take_succ_cons, List.drop_succ_cons, List.mem_cons, not_or]
        exact ⟨by rw [List.cons_append, ← h1], fun e => hx (by simp [e]), h2⟩
theorem cutP_index {l : List UInt8} : (Lib.indexByte l c = -1 ∧ cutP c l = (l, [])) ∨ ∃ i : Nat, Lib.indexByte l c = (i : Int) ∧ i < l.length ∧ cutP c l = (l.take i, l.drop (i + 1)) := by
  have hg := Lib.indexByte_ge l c
  have hl := index_lt (c := c) (l := l)
  by_cases h : Lib.indexByte l c = -1
  · exact .inl ⟨h, cutP_end (index_no h)⟩
  · obtain ⟨i, hi⟩ : ∃ i : Nat, Lib.indexByte l c = (i : Int) := ⟨(Lib.indexByte l c).toNat, by omega⟩
    obtain ⟨h1, h2⟩ := index_yes hi
    refine .inr ⟨i, hi, by omega, ?_⟩
    have := cutP_cut h2 (l.drop (i + 1))
    rwa [← h1] at this
end Go.Proofs.YtniehmlklbggdaaDoor
