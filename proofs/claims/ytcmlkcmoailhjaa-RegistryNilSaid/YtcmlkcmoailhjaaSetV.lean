/- Set's closure; a validator stored over another one. -/
import Derived.Test.YtcmlkcmoailhjaaAddV
namespace Go.Proofs.Ytcmlkcmoailhjaa
open Go Go.RowKit Go.Deep
set_option linter.unusedVariables false
set_option linter.unusedSimpArgs false

section
variable {w a : World} {g t : Nat} {S : Nat → Prop}
theorem blk_setCells : ∀ (vs X Y Z : List Value) (w : World), Y.length = vs.length → Blk w g t (X ++ Y ++ Z).toArray → Blk (w.setCells g X.length vs) g t (X ++ vs ++ Z).toArray
  | [], X, Y, Z, w, hl, h => by
    obtain rfl := List.eq_nil_of_length_eq_zero hl
    exact h
  | v :: vs, X, [], Z, w, hl, h => by simp at hl
  | v :: vs, X, y :: Y, Z, w, hl, h => by
    have h1 := h.set_ X.length v
    have e : ((X ++ (y :: Y) ++ Z).toArray).setIfInBounds X.length v = ((X ++ [v]) ++ Y ++ Z).toArray := by
      simp [List.set_append]
    rw [e] at h1
    have := blk_setCells vs (X ++ [v]) Y Z _ (by simpa using hl) h1
    simpa [World.setCells] using this
theorem Kept.setCells (vs : List Value) : ∀ (o : Nat) (w : World), Kept S a w → S g ∨ a.heap.size ≤ g → Kept S a (w.setCells g o vs) := by
  induction vs with
  | nil => exact fun o w h _ => h
  | cons v vs ih => exact fun o w h hg => ih (o + 1) _ (h.setCell hg v) hg
theorem owns_set {l : List Val} {i cp : Nat} {old : Val} (h : w.ownsRow 0 29 7 (.slice (some ⟨g, 0, none⟩) l.length cp) l.length (flat l)) (hi : l[i]? = some old) (v : Val) :
    (w.setCells g (i * 7) v.row).ownsRow 0 29 7 (.slice (some ⟨g, 0, none⟩) l.length cp) l.length (flat (l.set i v)) ∧ w.there g (i * 7) 7 := by
  have hil := (List.getElem?_eq_some_iff.1 hi).1
  rcases h.2 with ⟨h1, _⟩ | ⟨g', cp', cur, h1, h2, h3, h4, h5, h6, h7⟩
  · cases h1
  · injection h1 with h1 _ hcp
    injection h1 with h1
    injection h1 with h1
    subst h1 hcp
    have el : l = l.take i ++ old :: l.drop (i + 1) := by
      have he := (List.getElem?_eq_some_iff.1 hi).2
      rw [← he, List.getElem_cons_drop, List.take_append_drop]
    have es : l.set i v = l.take i ++ v :: l.drop (i + 1) := by rw [List.set_eq_take_append_cons_drop, if_pos hil]
    have hX : (flat (l.take i)).length = i * 7 := by rw [flat_len, List.length_take]; congr 1; omega
    have e1 : flat l = flat (l.take i) ++ old.row ++ flat (l.drop (i + 1)) := by
      conv => lhs; rw [el]
      rw [flat_append]
      simp [flat]
    have e2 : flat (l.set i v) = flat (l.take i) ++ v.row ++ flat (l.drop (i + 1)) := by
      rw [es, flat_append]
      simp [flat]
    have e3 : cur = (flat (l.take i) ++ old.row ++ (flat (l.drop (i + 1)) ++ cur.toList.drop (l.length * 7))).toArray := by
      rw [← List.append_assoc, ← e1, ← h7, List.take_append_drop]
    have hb : Blk w g 29 (flat (l.take i) ++ old.row ++ (flat (l.drop (i + 1)) ++ cur.toList.drop (l.length * 7))).toArray := by rw [← e3]; exact h3
    have hb2 := blk_setCells v.row (flat (l.take i)) old.row _ w rfl hb
    rw [hX] at hb2
    have hsz : ((flat (l.take i) ++ v.row ++ (flat (l.drop (i + 1)) ++ cur.toList.drop (l.length * 7))).toArray).size = cur.size := by
      conv => rhs; rw [e3]
      simp [row_len]
    refine ⟨⟨by rw [flat_len, List.length_set], .inr ⟨g, cp, _, rfl, h2, hb2, h4, h5, hsz.trans h6, ?_⟩⟩, fun j hj => ⟨?_, hb.frozen _⟩⟩
    · rw [← List.append_assoc, ← e2, List.toList_toArray, List.take_left' (by rw [flat_len, List.length_set])]
    · have hc : i * 7 + j < cur.size := by
        rw [h6]
        have : l.length ≤ cp := h4
        have : (i + 1) * 7 ≤ l.length * 7 := Nat.mul_le_mul_right 7 hil
        have : l.length * 7 ≤ cp * 7 := Nat.mul_le_mul_right 7 h4
        omega
      have hb' : Blk w g 29 cur := h3
      rw [hb'.cell, Array.getElem?_eq_getElem hc]
      rfl
end

set_option maxHeartbeats 800000 in
theorem closure_any (b m cap pR pO pV : Nat) (s : Value) (c : Int → Int) (A T : Int) (old v : Val) (w : World) (h : RegB w b m s cap c A T) (hR : Blk w pR 23 #[.pointer (some ⟨b, 0, none⟩)]) (hO : Blk w pO 29 (cellsV old)) (hV : Blk w pV 29 (cellsV v))
    (ho : FitsV old) (hv : FitsV v) (hA0 : liveBal old ≤ A) (hA : A ≤ T) (hA2 : A - liveBal old ≤ T - old.bal) (hT0 : old.bal ≤ T) (hT1 : T ≤ 18446744073709551615) (hT : T - old.bal + v.bal ≤ 18446744073709551615) (hc0 : 1 ≤ c old.st) (hc1 : c old.st ≤ 4096) (hc2 : 0 ≤ c v.st) (hc3 : c v.st ≤ 4096) :
    CallsB Try.prog 33 #[.pointer (some ⟨pR, 0, none⟩), .pointer (some ⟨pO, 0, none⟩), .pointer (some ⟨pV, 0, none⟩)] w fun e w' => e = .returned (.tuple #[]) ∧
      RegB w' b m s cap (upd (upd c old.st (c old.st - 1)) v.st (upd c old.st (c old.st - 1) v.st + 1)) (A - liveBal old + liveBal v) (T - old.bal + v.bal) ∧ Kept (fun i => i = b ∨ i = m) w w' := by
  have hne : ∀ p t cs, Blk w p t cs → t ≠ 56 → ¬ (p = b ∨ p = m) := fun p t cs hp ht => by
    rintro (rfl | rfl)
    · exact Blk.ne_ hp h.1 ht rfl
    · obtain ⟨es, clock, h9, _⟩ := h.2
      unfold Blk at hp
      rw [hp] at h9; cases h9
  have nR := hne pR _ _ hR (by decide)
  have nO := hne pO _ _ hO (by decide)
  have nV := hne pV _ _ hV (by decide)
  have cR : w.cell? ⟨pR, 0, none⟩ = some (.pointer (some ⟨b, 0, none⟩)) := hR.cell 0
  have HX := Lib.hid (exclude_any b m cap s c A T old w h ho hA0 hA hT0 hT1 hc0 hc1)
  have HRb := Lib.hid hR
  have HOb := Lib.hid hO
  have HVb := Lib.hid hV
  have HV := Lib.hid hv
  have l0 := liveBal_le hv.bal.1
  have hq : 0 ≤ upd c old.st (c old.st - 1) v.st ∧ upd c old.st (c old.st - 1) v.st ≤ 4096 := by
    unfold upd
    split <;> omega
  clear h hR hO hV ho hv hne
  refine callsB_of_wp Try.func33 rfl ?_
  simp only [Try.ntmps33, List.size_toArray, List.length_cons, List.length_nil, Nat.reduceAdd, Nat.reduceSub, Array.replicate_succ, Array.replicate_zero, List.push_toArray, List.append_toArray, List.nil_append, List.cons_append]
  go_wp2_with (refine wpList_load_val rfl 29 _ rfl pO 0 rfl old _ HOb.out.range Try.underlying29 rfl infoV ?_)
  refine HX.out.1.mono ?_
  rintro e w1 ⟨rfl, hr1, hk1⟩
  have HR1 := Lib.hid hr1
  have HK1 := Lib.hid hk1
  have HV1 := Lib.hid (HVb.out.kept hk1 nV)
  have cR1 : w1.cell? ⟨pR, 0, none⟩ = some (.pointer (some ⟨b, 0, none⟩)) := (HRb.out.kept hk1 nR).cell 0
  have HI := Lib.hid (include_any b m cap s _ _ _ v w1 hr1 HV.out (by omega) hA2 hT hq.1 hq.2)
  clear hr1 hk1 cR HX HVb HOb HRb
  go_wp2_with (refine wpList_load_val rfl 29 _ rfl pV 0 rfl v _ HV1.out.range Try.underlying29 rfl infoV ?_)
  refine HI.out.1.mono ?_
  rintro e w2 ⟨rfl, hr2, hk2⟩
  have HZ := Lib.hid (And.intro hr2 (HK1.out.trans hk2 (fun _ _ h => h)))
  clear hr2 hk2
  go_wp2
  go_end0
  exact ⟨rfl, HZ.out⟩
end Go.Proofs.Ytcmlkcmoailhjaa
