/- slices.Clone of two kinds of records (stage 21's). -/
import Derived.Test.YthnhpmeacboljaaAs
import Derived.Test.YthnhpmeacboljaaPm
import Derived.Test.YthnhpmeacboljaaAppend
import Derived.Test.YthnhpmeacboljaaBuild
import Derived.WalkSpells
import Derived.Deep.CutRange
namespace Go.Proofs.Ythnhpmeacboljaa
open Go Go.RowKit Go.Deep
set_option linter.unusedVariables false
set_option linter.unusedSimpArgs false
set_option maxRecDepth 100000

set_option maxHeartbeats 1600000 in
theorem cloneAs_any (a : Option Addr) (n c : Nat) (l : List As) (w : World) (S : Nat → Prop) (h : LstR As.row 3 w S a l) (hl : l.length = n) (hn : n ≤ 1000000) :
    Calls Try.prog 30 #[.slice a n c] w fun e w' => ∃ v, e = .returned v ∧ w'.ownsRow w.heap.size 47 3 v n (flatR As.row l) ∧ Below w.heap.size w w' := by
  rcases a with _ | a
  · have h0 : n = 0 := by
      rcases Nat.eq_zero_or_pos n with h0 | h0
      · exact h0
      · obtain ⟨b, off, e, _⟩ := h (by omega)
        cases e
    have hn0 : l = [] := List.eq_nil_of_length_eq_zero (by omega)
    subst hn0
    subst h0
    have hq : ∀ w, (binOp .eql 45 (.slice none 0 c) (.slice none 0 0)).run Try.prog w = .ok (.bool true) w := fun w => Lib.run_eql_slice_nil w _ _ _ _ _ _ _ Try.underlying45
    clear h hl hn
    go_enter Try.func30, Try.ntmps30
    go_wp2
    go_ret
    exact ⟨_, rfl, ⟨rfl, .inl ⟨rfl, rfl⟩⟩, Below.refl _ _⟩
  · have hq : ∀ w, (binOp .eql 45 (.slice (some a) n c) (.slice none 0 0)).run Try.prog w = .ok (.bool false) w := fun w => Lib.run_eql_slice_nil w _ _ _ _ _ _ _ Try.underlying45
    obtain ⟨i, hi, hz, hs, hby⟩ := appAs
    have BE : Hid (Blk (w.alloc (.cells #[] 47)) w.heap.size 47 #[]) := Lib.hid (Blk.new w _ _)
    have BA : Hid (Below w.heap.size w (w.alloc (.cells #[] 47))) := Lib.hid ((Below.refl _ _).alloc (Nat.le_refl _) _)
    have HS : Hid (0 < n → ∃ ad, some a = some ad ∧ ∀ j u, (flatR As.row l)[j]? = some u → (w.alloc (.cells #[] 47)).cell? (ad.add j) = some u) := Lib.hid (fun h0 => lstR_src As.row_len (by decide) h BA.out (by omega))
    have HL : Hid ((flatR As.row l).length = n * 3) := Lib.hid (by rw [flatR_len As.row_len, hl])
    have H1 : Hid (∀ u ∈ flatR As.row l, u.oneCell' = true) := Lib.hid (flatR_mem As.row_one)
    have HN := Lib.hid hn
    clear h hl hn
    generalize flatR As.row l = news at *
    go_enter Try.func30, Try.ntmps30
    go_wp2_with (at_builtin; refine wpList_append_src _ rfl _ _ 45 rfl w.heap.size 47 i (.agg (cellsAs asZ)) 3 24 Try.underlying45 hi hz hs hby rfl (by decide) (.slice (some ⟨w.heap.size, 0, none⟩) 0 0) 0 [] rfl (owns_empty BE.out (Nat.le_refl _)) (some a) n c news rfl HL.out HS.out H1.out (by have := HN.out; unfold maxLen; omega) (by have := HN.out; omega) (by simp) ?_)
    intro v w1 ho hg _
    have HO : Hid (w1.ownsRow w.heap.size 47 3 v n news) := Lib.hid (by simpa using ho)
    have HB : Hid (Below w.heap.size w w1) := Lib.hid (BA.out.grown hg (by simp) (fun k hk => by simp [Value.ownBlock] at hk; omega))
    clear ho hg BE BA HS
    go_wp2
    go_ret
    exact ⟨v, rfl, HO.out, HB.out⟩
set_option maxHeartbeats 1600000 in
theorem clonePm_any (a : Option Addr) (n c : Nat) (l : List Pm) (w : World) (S : Nat → Prop) (h : LstR Pm.row 3 w S a l) (hl : l.length = n) (hn : n ≤ 1000000) :
    Calls Try.prog 29 #[.slice a n c] w fun e w' => ∃ v, e = .returned v ∧ w'.ownsRow w.heap.size 41 3 v n (flatR Pm.row l) ∧ Below w.heap.size w w' := by
  rcases a with _ | a
  · have h0 : n = 0 := by
      rcases Nat.eq_zero_or_pos n with h0 | h0
      · exact h0
      · obtain ⟨b, off, e, _⟩ := h (by omega)
        cases e
    have hn0 : l = [] := List.eq_nil_of_length_eq_zero (by omega)
    subst hn0
    subst h0
    have hq : ∀ w, (binOp .eql 39 (.slice none 0 c) (.slice none 0 0)).run Try.prog w = .ok (.bool true) w := fun w => Lib.run_eql_slice_nil w _ _ _ _ _ _ _ Try.underlying39
    clear h hl hn
    go_enter Try.func29, Try.ntmps29
    go_wp2
    go_ret
    exact ⟨_, rfl, ⟨rfl, .inl ⟨rfl, rfl⟩⟩, Below.refl _ _⟩
  · have hq : ∀ w, (binOp .eql 39 (.slice (some a) n c) (.slice none 0 0)).run Try.prog w = .ok (.bool false) w := fun w => Lib.run_eql_slice_nil w _ _ _ _ _ _ _ Try.underlying39
    obtain ⟨i, hi, hz, hs, hby⟩ := appPm
    have BE : Hid (Blk (w.alloc (.cells #[] 41)) w.heap.size 41 #[]) := Lib.hid (Blk.new w _ _)
    have BA : Hid (Below w.heap.size w (w.alloc (.cells #[] 41))) := Lib.hid ((Below.refl _ _).alloc (Nat.le_refl _) _)
    have HS : Hid (0 < n → ∃ ad, some a = some ad ∧ ∀ j u, (flatR Pm.row l)[j]? = some u → (w.alloc (.cells #[] 41)).cell? (ad.add j) = some u) := Lib.hid (fun h0 => lstR_src Pm.row_len (by decide) h BA.out (by omega))
    have HL : Hid ((flatR Pm.row l).length = n * 3) := Lib.hid (by rw [flatR_len Pm.row_len, hl])
    have H1 : Hid (∀ u ∈ flatR Pm.row l, u.oneCell' = true) := Lib.hid (flatR_mem Pm.row_one)
    have HN := Lib.hid hn
    clear h hl hn
    generalize flatR Pm.row l = news at *
    go_enter Try.func29, Try.ntmps29
    go_wp2_with (at_builtin; refine wpList_append_src _ rfl _ _ 39 rfl w.heap.size 41 i (.agg (cellsPm pmZ)) 3 24 Try.underlying39 hi hz hs hby rfl (by decide) (.slice (some ⟨w.heap.size, 0, none⟩) 0 0) 0 [] rfl (owns_empty BE.out (Nat.le_refl _)) (some a) n c news rfl HL.out HS.out H1.out (by have := HN.out; unfold maxLen; omega) (by have := HN.out; omega) (by simp) ?_)
    intro v w1 ho hg _
    have HO : Hid (w1.ownsRow w.heap.size 41 3 v n news) := Lib.hid (by simpa using ho)
    have HB : Hid (Below w.heap.size w w1) := Lib.hid (BA.out.grown hg (by simp) (fun k hk => by simp [Value.ownBlock] at hk; omega))
    clear ho hg BE BA HS
    go_wp2
    go_ret
    exact ⟨v, rfl, HO.out, HB.out⟩
end Go.Proofs.Ythnhpmeacboljaa
