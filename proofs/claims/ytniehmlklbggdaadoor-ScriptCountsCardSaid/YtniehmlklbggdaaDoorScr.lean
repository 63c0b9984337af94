/- Scripts as plain functions: a whole byte script decoded and encoded; how many of a kind. -/
import Derived.Test.YtniehmlklbggdaaDoorInv
namespace Go.Proofs.YtniehmlklbggdaaDoor
open Go Go.RowKit
set_option linter.unusedVariables false
set_option linter.unusedSimpArgs false

/-- The offset behind k operations. -/
def atS (L : List Int) : Nat → Nat
  | 0 => 0
  | k + 1 => (decS L (atS L k)).2.toNat
def opS (L : List Int) (k : Nat) : Oq := (decS L (atS L k)).1
def upS (L : List Int) (n : Nat) : List Oq := (List.range n).map (opS L)
/-- A script has just n operations. -/
structure StopS (L : List Int) (n : Nat) : Prop where
  lt : ∀ j, j < n → atS L j < L.length
  out : atS L n = L.length
theorem decS_next {L : List Int} {p : Nat} (h : p < L.length) : (p : Int) + 1 ≤ (decS L p).2 ∧ (decS L p).2 ≤ (L.length : Int) := by
  unfold decS
  cases hk : ods (L.getD p 0) with
  | none => exact ⟨Int.le_refl _, by simp only; omega⟩
  | some l =>
    simp only
    split
    · exact ⟨by simp only; omega, by simp only; omega⟩
    · exact ⟨by simp only; omega, Int.le_refl _⟩
theorem atS_next {L : List Int} {k : Nat} (h : atS L k < L.length) : atS L k < atS L (k + 1) ∧ atS L (k + 1) ≤ L.length ∧ (decS L (atS L k)).2 = ((atS L (k + 1) : Nat) : Int) := by
  have := decS_next h
  simp only [atS]
  omega
theorem atS_up {L : List Int} {k : Nat} (h : ∀ j, j < k → atS L j < L.length) : k ≤ atS L k ∧ atS L k ≤ L.length := by
  induction k with
  | zero => simp [atS]
  | succ k ih =>
    have := ih fun j hj => h j (by omega)
    have := atS_next (h k (by omega))
    omega
theorem stopS_le {L : List Int} {n : Nat} (h : StopS L n) : n ≤ L.length := by have := atS_up h.lt; omega
theorem stopS_ex (L : List Int) : ∃ n, StopS L n := by
  have go : ∀ m k, L.length - atS L k ≤ m → (∀ j, j < k → atS L j < L.length) → ∃ n, StopS L n := by
    intro m
    induction m with
    | zero => exact fun k h hj => ⟨k, hj, by have := atS_up hj; omega⟩
    | succ m ih =>
      intro k h hj
      have h1 := atS_up hj
      by_cases he : atS L k = L.length
      · exact ⟨k, hj, he⟩
      · have h2 := atS_next (L := L) (k := k) (by omega)
        refine ih (k + 1) (by omega) fun j hj2 => ?_
        rcases Nat.lt_or_ge j k with h3 | h3
        · exact hj j h3
        · obtain rfl : j = k := by omega
          omega
  exact go L.length 0 (by simp [atS]) fun j hj => by omega
theorem StopS.end_ {L : List Int} {n k : Nat} (h : StopS L n) (hk : k ≤ n) : (atS L k < L.length ↔ k < n) := by
  constructor
  · intro hl
    rcases Nat.lt_or_ge k n with h2 | h2
    · exact h2
    · obtain rfl : k = n := by omega
      have := h.out
      omega
  · exact h.lt k
theorem StopS.unique {L : List Int} {n m : Nat} (h : StopS L n) (h2 : StopS L m) : n = m := by
  rcases Nat.lt_trichotomy n m with hl | hl | hl
  · have := h2.lt n hl; have := h.out; omega
  · exact hl
  · have := h.lt m hl; have := h2.out; omega
theorem upS_len (L : List Int) (n : Nat) : (upS L n).length = n := by simp [upS]
theorem upS_succ (L : List Int) (n : Nat) : upS L (n + 1) = upS L n ++ [opS L n] := by simp [upS, List.range_succ]

/-! ### what is decoded -/
theorem fillF_fits : ∀ (l : List Od) (T : List Int) (o : Oq), AllB T → FitsOq o → szs l ≤ T.length → FitsOq (fillF l T o)
  | [], _, _, _, h, _ => h
  | d :: l, T, o, hT, h, hs => by
    rw [fillF]
    refine fillF_fits l _ _ (all_drop hT _) ?_ (by simp only [szs] at hs; rw [List.length_drop]; omega)
    obtain ⟨h1, h2, h3, h4⟩ := h
    have hw : ∀ v : Int, (Lit.int .i64 (IntKind.i64.wrap v)).wf = true := fun v => WalkArith.wf_i64 (by simp [IntKind.wrap, IntKind.bits, IntKind.signed]; omega)
    cases d with
    | ix => exact ⟨h1, hw _, h3, h4⟩
    | tg => exact ⟨h1, h2, hw _, h4⟩
    | am =>
      obtain ⟨a0, a1, _⟩ := take_eight hT (by simp only [szs, Od.sz] at hs; omega)
      refine ⟨h1, h2, h3, ?_⟩
      show (Lit.int .u64 (valL (T.take 8))).wf = true
      simp [Lit.wf, IntKind.min, IntKind.max, IntKind.signed, IntKind.bits]
      omega
theorem opS_fits {L : List Int} (hL : AllB L) {k : Nat} (h : atS L k < L.length) : FitsOq (opS L k) := by
  have hz : FitsOq oqZ := by unfold FitsOq; decide
  unfold opS decS
  cases hk : ods (L.getD (atS L k) 0) with
  | none => exact hz
  | some l =>
    simp only
    split
    · rename_i hs
      refine fillF_fits l _ _ (all_drop hL _) ⟨?_, show (Lit.int .i64 0).wf = true by decide, show (Lit.int .i64 0).wf = true by decide, show (Lit.int .u64 0).wf = true by decide⟩ (by rw [List.length_drop]; omega)
      have := ods_some hk
      show (Lit.int .i64 (L.getD (atS L k) 0)).wf = true
      exact WalkArith.wf_i64 (by omega)
    · exact hz
theorem opS_kd (L : List Int) (k : Nat) : 0 ≤ (opS L k).kd ∧ (opS L k).kd ≤ 7 := by
  unfold opS decS
  cases hk : ods (L.getD (atS L k) 0) with
  | none => exact ⟨show (0 : Int) ≤ 0 by decide, show (0 : Int) ≤ 7 by decide⟩
  | some l =>
    simp only
    have := ods_some hk
    split
    · simp only [fill_kd]
      omega
    · exact ⟨show (0 : Int) ≤ 0 by decide, show (0 : Int) ≤ 7 by decide⟩

/-! ### how many of a kind -/
def cntK (l : List Oq) (k : Int) : Nat := (l.filter fun o => decide (o.kd = k)).length
def sumK (l : List Oq) : Nat → Nat
  | 0 => 0
  | n + 1 => sumK l n + cntK l (n : Int)
theorem cntK_le (l : List Oq) (k : Int) : cntK l k ≤ l.length := List.length_filter_le _ _
theorem cntK_cons (o : Oq) (l : List Oq) (k : Int) : cntK (o :: l) k = (if o.kd = k then 1 else 0) + cntK l k := by
  unfold cntK
  rw [List.filter_cons]
  by_cases h : o.kd = k
  · simp [h]; omega
  · simp [h]
theorem cntK_snoc {l : List Oq} {i : Nat} {o : Oq} (h : l[i]? = some o) (k : Int) : cntK (l.take (i + 1)) k = cntK (l.take i) k + if o.kd = k then 1 else 0 := by
  unfold cntK
  rw [List.take_add_one, h, List.filter_append, List.length_append]
  by_cases h : o.kd = k <;> simp [h]
theorem sumK_cons (o : Oq) (l : List Oq) : ∀ n : Nat, sumK (o :: l) n = sumK l n + if 0 ≤ o.kd ∧ o.kd < n then 1 else 0
  | 0 => by rw [if_neg (by omega)]; rfl
  | n + 1 => by
    rw [sumK, sumK, sumK_cons o l n, cntK_cons]
    by_cases h1 : 0 ≤ o.kd ∧ o.kd < n
    · rw [if_pos h1, if_neg (by omega), if_pos (by omega)]; omega
    · rw [if_neg h1]
      by_cases h2 : o.kd = n
      · rw [if_pos h2, if_pos (by omega)]; omega
      · rw [if_neg h2, if_neg (by omega)]; omega
theorem sumK_all : ∀ {l : List Oq}, (∀ o ∈ l, 0 ≤ o.kd ∧ o.kd ≤ 7) → sumK l 8 = l.length
  | [], _ => by simp [sumK, cntK]
  | o :: l, h => by
    rw [sumK_cons, sumK_all fun x hx => h x (by simp [hx]), if_pos (by have := h o (by simp); omega)]
    rfl
theorem cntK_none {l : List Oq} {k : Int} (h : ∀ o ∈ l, o.kd ≠ k) : cntK l k = 0 := by
  unfold cntK
  rw [List.length_eq_zero_iff, List.filter_eq_nil_iff]
  intro o ho
  simpa using h o ho
theorem cntK_all {l : List Oq} {k : Int} (h : ∀ o ∈ l, o.kd = k) : cntK l k = l.length := by
  unfold cntK
  rw [List.filter_eq_self.2]
  intro o ho
  simpa using h o ho
theorem upS_mem {L : List Int} {n : Nat} {o : Oq} (h : o ∈ upS L n) : 0 ≤ o.kd ∧ o.kd ≤ 7 := by
  obtain ⟨k, _, rfl⟩ := List.mem_map.1 h
  exact opS_kd L k

/-! ### scripts that are written -/
def encA (l : List Oq) : List Int := l.flatMap encL
theorem encA_take {l : List Oq} {k : Nat} {o : Oq} (h : l[k]? = some o) : encA (l.take (k + 1)) = encA (l.take k) ++ encL o := by
  unfold encA
  rw [List.take_add_one, h]
  simp
theorem encA_append (l m : List Oq) : encA (l ++ m) = encA l ++ encA m := by simp [encA]
theorem encA_split {l : List Oq} {k : Nat} {o : Oq} (h : l[k]? = some o) : encA l = encA (l.take k) ++ encL o ++ encA (l.drop (k + 1)) := by
  rw [← encA_take h, ← encA_append, List.take_append_drop]
theorem encA_at {l : List Oq} (hl : ∀ o ∈ l, validB o = true ∧ FitsOq o) : ∀ k, k ≤ l.length → atS (encA l) k = (encA (l.take k)).length
  | 0, _ => by simp [atS, encA]
  | k + 1, hk => by
    have ho : l[k]? = some l[k] := List.getElem?_eq_getElem (by omega)
    have hv := hl l[k] (List.getElem_mem (by omega))
    have hd := dec_enc hv.1 hv.2 (encA (l.take k)) (encA (l.drop (k + 1)))
    rw [atS, encA_at hl k (by omega), encA_split ho, hd, encA_take ho, List.length_append]
    exact Int.toNat_natCast _
theorem encA_up {l : List Oq} (hl : ∀ o ∈ l, validB o = true ∧ FitsOq o) : StopS (encA l) l.length ∧ upS (encA l) l.length = l := by
  have hop : ∀ k (hk : k < l.length), opS (encA l) k = l[k] ∧ atS (encA l) k < (encA l).length := fun k hk => by
    have ho : l[k]? = some l[k] := List.getElem?_eq_getElem hk
    have hv := hl l[k] (List.getElem_mem hk)
    have hd := dec_enc hv.1 hv.2 (encA (l.take k)) (encA (l.drop (k + 1)))
    obtain ⟨ds, h1, _⟩ := shape_of hv.1 hv.2
    have hlen := encL_len h1
    refine ⟨?_, ?_⟩
    · rw [opS, encA_at hl k (by omega), encA_split ho, hd]
    · rw [encA_at hl k (by omega), encA_split ho, List.length_append, List.length_append]
      omega
  refine ⟨⟨fun j hj => (hop j hj).2, ?_⟩, ?_⟩
  · rw [encA_at hl _ (Nat.le_refl _), List.take_length]
  · refine List.ext_getElem (upS_len _ _) fun k h1 h2 => ?_
    rw [← (hop k h2).1]
    simp [upS]
theorem encA_all {l : List Oq} (hl : ∀ o ∈ l, validB o = true ∧ FitsOq o) : AllB (encA l) := by
  intro x hx
  obtain ⟨o, ho, hx⟩ := List.mem_flatMap.1 hx
  obtain ⟨ds, h1, _⟩ := shape_of (hl o ho).1 (hl o ho).2
  exact encL_all h1 x hx
theorem encA_len {l : List Oq} (hl : ∀ o ∈ l, validB o = true ∧ FitsOq o) : (encA l).length ≤ 11 * l.length := by
  induction l with
  | nil => simp [encA]
  | cons o l ih =>
    obtain ⟨ds, h1, _⟩ := shape_of (hl o (by simp)).1 (hl o (by simp)).2
    have h2 := encL_len h1
    have h3 := (ods_some h1).2.2.1
    have := ih fun x hx => hl x (by simp [hx])
    simp only [encA, List.flatMap_cons, List.length_append, List.length_cons] at this ⊢
    omega
end Go.Proofs.YtniehmlklbggdaaDoor
