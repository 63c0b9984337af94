/- Stable sorting as mathematics: a list is sorted by epoch; two lists have the same entries of each epoch in the same order. No program in sight. -/
import Derived.Test.YtinndmglacfofaaEnt
namespace Go.Proofs.Ytinndmglacfofaa
open Go

/-- Not descending by epoch. -/
def Srt (l : List Ent) : Prop := l.Pairwise fun x y => x.1 ≤ y.1
/-- The entries of each epoch are the same, in the same order. -/
def Stab (l m : List Ent) : Prop := ∀ k : Int, (l.filter fun e => e.1 == k) = m.filter fun e => e.1 == k

theorem Stab.refl (l : List Ent) : Stab l l := fun _ => rfl
theorem Stab.symm {l m : List Ent} (h : Stab l m) : Stab m l := fun k => (h k).symm
theorem Stab.trans {l m n : List Ent} (h : Stab l m) (h2 : Stab m n) : Stab l n := fun k => (h k).trans (h2 k)
theorem Stab.append {a b c d : List Ent} (h : Stab a b) (h2 : Stab c d) : Stab (a ++ c) (b ++ d) := fun k => by rw [List.filter_append, List.filter_append, h k, h2 k]
theorem Stab.perm {l m : List Ent} (h : Stab l m) : l.Perm m := by
  rw [List.perm_iff_count]
  intro x
  have hx : (x.1 == x.1) = true := by simp
  have e1 := List.count_filter (l := l) (p := fun e : Ent => e.1 == x.1) (a := x) hx
  have e2 := List.count_filter (l := m) (p := fun e : Ent => e.1 == x.1) (a := x) hx
  rw [← e1, ← e2, h x.1]
theorem Stab.len {l m : List Ent} (h : Stab l m) : l.length = m.length := h.perm.length_eq
theorem Stab.mem {l m : List Ent} (h : Stab l m) {x : Ent} : x ∈ l ↔ x ∈ m := h.perm.mem_iff
theorem filter_none {l : List Ent} {k : Int} (h : ∀ e ∈ l, e.1 ≠ k) : (l.filter fun e => e.1 == k) = [] := by
  rw [List.filter_eq_nil_iff]
  intro e he
  simpa using h e he
/-- Two neighbouring parts change places. -/
theorem Stab.rot {u v : List Ent} (h : ∀ x ∈ u, ∀ y ∈ v, y.1 < x.1) : Stab (u ++ v) (v ++ u) := fun k => by
  rw [List.filter_append, List.filter_append]
  by_cases hu : ∃ x ∈ u, x.1 = k
  · obtain ⟨x, hx, hk⟩ := hu
    rw [filter_none (l := v) (fun y hy => by have := h x hx y hy; omega)]
    simp
  · rw [filter_none (l := u) (fun x hx hk => hu ⟨x, hx, hk⟩)]
    simp
theorem Stab.swap {P Q : List Ent} {x y : Ent} (h : y.1 < x.1) : Stab (P ++ x :: y :: Q) (P ++ y :: x :: Q) :=
  (Stab.refl P).append ((Stab.rot (u := [x]) (v := [y]) (by simpa using h)).append (Stab.refl Q))
theorem srt_nil : Srt [] := List.Pairwise.nil
theorem srt_one (x : Ent) : Srt [x] := List.pairwise_singleton _ _
theorem srt_append {l m : List Ent} : Srt (l ++ m) ↔ Srt l ∧ Srt m ∧ ∀ x ∈ l, ∀ y ∈ m, x.1 ≤ y.1 := List.pairwise_append
theorem srt_cons {x : Ent} {m : List Ent} : Srt (x :: m) ↔ (∀ y ∈ m, x.1 ≤ y.1) ∧ Srt m := List.pairwise_cons
theorem srt_at {l : List Ent} (h : Srt l) {i j : Nat} {x y : Ent} (hi : l[i]? = some x) (hj : l[j]? = some y) (hij : i ≤ j) : x.1 ≤ y.1 := by
  obtain ⟨hi1, rfl⟩ := List.getElem?_eq_some_iff.1 hi
  obtain ⟨hj1, rfl⟩ := List.getElem?_eq_some_iff.1 hj
  rcases Nat.lt_or_eq_of_le hij with hlt | rfl
  · exact List.pairwise_iff_getElem.1 h i j hi1 hj1 hlt
  · exact Int.le_refl _
/-- There is one list that is sorted and has these entries. -/
theorem stab_unique : ∀ {l m : List Ent}, Srt l → Srt m → Stab l m → l = m
  | [], m, _, _, h => (List.eq_nil_of_length_eq_zero h.len.symm).symm
  | x :: l, [], _, _, h => by have := h.len; simp at this
  | x :: l, y :: m, h1, h2, h => by
    rw [srt_cons] at h1 h2
    have hxy : y.1 ≤ x.1 := by
      rcases List.mem_cons.1 (h.mem.1 (List.mem_cons_self : x ∈ x :: l)) with e | e
      · rw [e]; exact Int.le_refl _
      · exact h2.1 x e
    have hyx : x.1 ≤ y.1 := by
      rcases List.mem_cons.1 (h.mem.2 (List.mem_cons_self : y ∈ y :: m)) with e | e
      · rw [e]; exact Int.le_refl _
      · exact h1.1 y e
    have hk := h x.1
    rw [List.filter_cons_of_pos (by simp), List.filter_cons_of_pos (by simp; omega)] at hk
    injection hk with e0 e1
    subst e0
    have hs : Stab l m := fun k => by
      by_cases hkx : x.1 = k
      · subst hkx; exact e1
      · have := h k
        rwa [List.filter_cons_of_neg (by simpa using hkx), List.filter_cons_of_neg (by simpa using hkx)] at this
    rw [stab_unique h1.2 h2.2 hs]

/-! ### the two direct insertions and the merge -/
theorem merge_one {x : Ent} {v1 v2 : List Ent} (hv : Srt (v1 ++ v2)) (h1 : ∀ e ∈ v1, e.1 < x.1) (h2 : ∀ e ∈ v2, x.1 ≤ e.1) : Srt (v1 ++ x :: v2) ∧ Stab (x :: (v1 ++ v2)) (v1 ++ x :: v2) := by
  rw [srt_append] at hv
  refine ⟨?_, ?_⟩
  · rw [srt_append, srt_cons]
    refine ⟨hv.1, ⟨h2, hv.2.1⟩, fun a ha b hb => ?_⟩
    rcases List.mem_cons.1 hb with rfl | hb
    · have := h1 a ha; omega
    · exact hv.2.2 a ha b hb
  · have := (Stab.rot (u := [x]) (v := v1) (fun a ha y hy => by rw [List.mem_singleton.1 ha]; exact h1 y hy)).append (Stab.refl v2)
    simpa using this
theorem merge_last {y : Ent} {u1 u2 : List Ent} (hu : Srt (u1 ++ u2)) (h1 : ∀ e ∈ u1, e.1 ≤ y.1) (h2 : ∀ e ∈ u2, y.1 < e.1) : Srt (u1 ++ y :: u2) ∧ Stab ((u1 ++ u2) ++ [y]) (u1 ++ y :: u2) := by
  rw [srt_append] at hu
  refine ⟨?_, ?_⟩
  · rw [srt_append, srt_cons]
    refine ⟨hu.1, ⟨fun e he => by have := h2 e he; omega, hu.2.1⟩, fun a ha b hb => ?_⟩
    rcases List.mem_cons.1 hb with rfl | hb
    · exact h1 a ha
    · exact hu.2.2 a ha b hb
  · have := (Stab.refl u1).append (Stab.rot (u := u2) (v := [y]) (fun x hx a ha => by rw [List.mem_singleton.1 ha]; exact h2 x hx))
    simpa using this
theorem merge_two {U1 U2 V1 V2 t1 t2 : List Ent} (hu : Srt (U1 ++ U2)) (hv : Srt (V1 ++ V2)) (hVU : ∀ x ∈ U2, ∀ y ∈ V1, y.1 < x.1) (hUV : ∀ x ∈ U1, ∀ y ∈ V2, x.1 ≤ y.1)
    (s1 : Srt t1) (b1 : Stab (U1 ++ V1) t1) (s2 : Srt t2) (b2 : Stab (U2 ++ V2) t2) : Srt (t1 ++ t2) ∧ Stab ((U1 ++ U2) ++ (V1 ++ V2)) (t1 ++ t2) := by
  rw [srt_append] at hu hv
  refine ⟨?_, ?_⟩
  · rw [srt_append]
    refine ⟨s1, s2, fun a ha b hb => ?_⟩
    have ha := List.mem_append.1 (b1.mem.2 ha)
    have hb := List.mem_append.1 (b2.mem.2 hb)
    rcases ha with ha | ha <;> rcases hb with hb | hb
    · exact hu.2.2 a ha b hb
    · exact hUV a ha b hb
    · have := hVU b hb a ha; omega
    · exact hv.2.2 a ha b hb
  · have h1 : Stab ((U1 ++ U2) ++ (V1 ++ V2)) ((U1 ++ V1) ++ (U2 ++ V2)) := by
      have := (Stab.refl U1).append ((Stab.rot (u := U2) (v := V1) hVU).append (Stab.refl V2))
      simpa using this
    exact h1.trans (b1.append b2)

/-! ### blocks -/
/-- Each block of so many is sorted. -/
def Blocks (s : Nat) (l : List Ent) : Prop := ∀ q, Srt ((l.drop (q * s)).take s)
theorem blocks_whole {s : Nat} {l : List Ent} (h : Blocks s l) (hl : l.length ≤ s) : Srt l := by
  have := h 0
  rwa [Nat.zero_mul, List.drop_zero, List.take_of_length_le hl] at this
/-- Blocks of a list of three parts, the borders at whole blocks. -/
theorem drop_part {P t Q : List Ent} {k : Nat} (h : P.length = k) : (P ++ t ++ Q).drop k = t ++ Q := by
  rw [List.append_assoc, List.drop_append_of_le_length (by omega), List.drop_of_length_le (by omega), List.nil_append]
end Go.Proofs.Ytinndmglacfofaa
