/- Order, Payments, Assigned; slices.Sort of a row of one's own. -/
import Derived.Test.YthnhpmeacboljaaEqs
import Derived.Test.YthnhpmeacboljaaCln
import Derived.Test.YthnhpmeacboljaaInts
import Derived.Sort.OwnSortedInts
namespace Go.Proofs.Ythnhpmeacboljaa
open Go Go.RowKit Go.Deep Go.Sort
set_option linter.unusedVariables false
set_option linter.unusedSimpArgs false
set_option maxRecDepth 100000

theorem order_any (b : Nat) (T : Nat → Prop) (s : St) (n c : Int) (w : World) (h : LgAt w b T s n) (hl : s.od.length ≤ 1000000) :
    Calls Try.prog 18 #[.pointer (some ⟨b, 0, none⟩), .int .i64 c] w fun e w' => IntsPost w (ofCls s c) e w' := by
  have HC := Lib.hid (ofCls_any b T s n c w h hl)
  clear h hl
  go_enter Try.func18, Try.ntmps18
  go_wp2_with (fail)
  refine HC.out.mono ?_
  rintro e w1 ⟨a, cp, rfl, h1, h2⟩
  have H1 := Lib.hid (And.intro h1 h2)
  clear h1 h2 HC
  go_wp2_with (fail)
  go_ret
  exact ⟨a, cp, rfl, H1.out.1, H1.out.2⟩
/-- What a function that only makes a row of records leaves. -/
def RowPost {α : Type} (row : α → List Value) (k : Nat) (e : TypeId) (w : World) (l : List α) (r : Ending) (w' : World) : Prop := ∃ a cp, r = .returned (.slice a l.length cp) ∧ w'.ownsRow w.heap.size e k (.slice a l.length cp) l.length (flatR row l) ∧ Below w.heap.size w w'
set_option maxHeartbeats 1600000 in
theorem payments_any (b : Nat) (T : Nat → Prop) (s : St) (n i : Int) (w : World) (h : LgAt w b T s n) (hi : (Lit.int .i64 i).wf = true) (hl : (s.py i).length ≤ 1000000) :
    Calls Try.prog 13 #[.pointer (some ⟨b, 0, none⟩), .int .i64 i] w fun e w' => RowPost Pm.row 3 41 w (s.py i) e w' := by
  obtain ⟨v, hv⟩ := h
  have HI := Lib.hid hi
  obtain ⟨f, hf⟩ := hv.py
  have HM := Lib.hid hf.map
  obtain ⟨u0, hu0⟩ : ∃ u0, lookV false nilS (f i) = u0 := ⟨_, rfl⟩
  have hrow := (hf.get i).1
  rw [hu0] at hrow
  obtain ⟨a, cp, rfl, -, -, hL⟩ := ownsR_lst (S := fun _ => False) Pm.row_len hrow rfl (fun _ _ h => h)
  have HU := Lib.hid hu0
  have y0 : w.cell? ⟨b, 7, none⟩ = some (.map (some v.m5)) := hv.cell 7
  have HC := Lib.hid (clonePm_any a (s.py i).length cp (s.py i) w (fun _ => False) hL rfl hl)
  clear hv hf hrow hL hu0 hi hl
  obtain ⟨q, hq⟩ : ∃ q, (s.py i).length = q := ⟨_, rfl⟩
  have HQ := Lib.hid hq
  rw [hq] at HU HC
  clear hq
  go_enter Try.func13, Try.ntmps13
  go_wp2_with (refine wpList_lookF rfl false _ _ rfl HM.out Try.underlying3 Try.underlying77 _ (nilSPm _) i rfl rfl HI.out _ HU.out ?_)
  refine HC.out.mono ?_
  rintro e w1 ⟨r, rfl, ho, hb⟩
  obtain ⟨a2, c2, rfl, -, -⟩ := ownsR_slice ho
  have HO := Lib.hid (And.intro ho hb)
  clear ho hb HC
  go_wp2_with (fail)
  go_ret
  have e1 := HQ.out
  subst e1
  exact ⟨a2, c2, rfl, HO.out.1, HO.out.2⟩
set_option maxHeartbeats 1600000 in
theorem assigned_any (b : Nat) (T : Nat → Prop) (s : St) (n i : Int) (w : World) (h : LgAt w b T s n) (hi : (Lit.int .i64 i).wf = true) (hl : (s.an i).length ≤ 1000000) :
    Calls Try.prog 16 #[.pointer (some ⟨b, 0, none⟩), .int .i64 i] w fun e w' => RowPost As.row 3 47 w (s.an i) e w' := by
  obtain ⟨v, hv⟩ := h
  have HI := Lib.hid hi
  obtain ⟨f, hf⟩ := hv.an
  have HM := Lib.hid hf.map
  obtain ⟨u0, hu0⟩ : ∃ u0, lookV false nilS (f i) = u0 := ⟨_, rfl⟩
  have hrow := (hf.get i).1
  rw [hu0] at hrow
  obtain ⟨a, cp, rfl, -, -, hL⟩ := ownsR_lst (S := fun _ => False) As.row_len hrow rfl (fun _ _ h => h)
  have HU := Lib.hid hu0
  have y0 : w.cell? ⟨b, 8, none⟩ = some (.map (some v.m6)) := hv.cell 8
  have HC := Lib.hid (cloneAs_any a (s.an i).length cp (s.an i) w (fun _ => False) hL rfl hl)
  clear hv hf hrow hL hu0 hi hl
  obtain ⟨q, hq⟩ : ∃ q, (s.an i).length = q := ⟨_, rfl⟩
  have HQ := Lib.hid hq
  rw [hq] at HU HC
  clear hq
  go_enter Try.func16, Try.ntmps16
  go_wp2_with (refine wpList_lookF rfl false _ _ rfl HM.out Try.underlying3 Try.underlying78 _ (nilSAs _) i rfl rfl HI.out _ HU.out ?_)
  refine HC.out.mono ?_
  rintro e w1 ⟨r, rfl, ho, hb⟩
  obtain ⟨a2, c2, rfl, -, -⟩ := ownsR_slice ho
  have HO := Lib.hid (And.intro ho hb)
  clear ho hb HC
  go_wp2_with (fail)
  go_ret
  have e1 := HQ.out
  subst e1
  exact ⟨a2, c2, rfl, HO.out.1, HO.out.2⟩
/-- slices.Sort of a row of one's own. -/
def srt (l : List Int) : List Int := l.mergeSort fun x y => decide (x ≤ y)
theorem sort_own (base : Nat) (v : Value) (l : List Int) (w : World) (h : OwnI w base v l) (hl : l.length ≤ 1000000) :
    Calls Try.prog 19 #[v] w fun e w' => e = .returned (.tuple #[]) ∧ OwnI w' base v (srt l) ∧ Kept (fun j => v.ownBlock = some j) w w' := by
  have hlen : (srt l).length = l.length := List.length_mergeSort _
  rcases h.2 with ⟨rfl, h0⟩ | ⟨g, cap, cur, rfl, h1, h2, h3, h4, h5, h6⟩
  · refine (Try.slices_Sort_int_none none 0 w).mono ?_
    rintro e w' ⟨rfl, rfl⟩
    have hn : l = [] := List.eq_nil_of_length_eq_zero h0
    subst hn
    exact ⟨rfl, by rw [show srt [] = [] by unfold srt; simp]; exact h, Kept.refl _ _⟩
  · have hH : Sort.Holds (Value.int .i64) w g 0 l.toArray := holds_of_blockI h2 (by rw [Nat.mul_one] at h6; exact h6)
    refine (Try.slices_Sort_int g 0 cap l w hH (Array.getElem?_eq_some_iff.1 h2).1 (by omega)).mono ?_
    rintro e w' ⟨rfl, q, os, rfl⟩
    refine ⟨rfl, ?_, Kept.of_grown (grownBy_sortedI _) (fun i hi => ?_)⟩
    · have := ownsRow_sortedI (n := q) (os := os) (base := base) (g := g) (cap := cap) (cur := cur) (ss := l) (ts := srt l) hlen h1 h2 h3 h4 h5
      unfold OwnI
      rw [hlen]
      exact this
    · injection hi with hi
      rw [hi]; rfl
end Go.Proofs.Ythnhpmeacboljaa
