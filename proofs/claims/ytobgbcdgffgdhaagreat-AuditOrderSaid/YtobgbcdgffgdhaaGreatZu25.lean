/- Part 25 of 29: Wds. -/
import Derived.Test.YtobgbcdgffgdhaaGreatZu23
import Derived.Test.YtobgbcdgffgdhaaGreatZu24
namespace Go.Proofs.YtobgbcdgffgdhaaGreat
set_option linter.unusedVariables false
set_option linter.unusedSimpArgs false
section
open Go Go.RowKit Go.Deep
set_option maxRecDepth 100000
theorem few_wd {V : List Val} (h : V.all fewV = true) : ∀ v ∈ V, -4611686018427387904 ≤ v.wd ∧ v.wd ≤ 4611686018427387904 := fun v hv => by
 have h1 := List.all_eq_true.1 h v hv
 unfold fewV at h1
 rw [decide_eq_true_eq] at h1
 omega
theorem au_of {w : World} {x : Sx} {c : Nat → Int} {V : List Val} {pd F W : List Int} (h : SxAt w (fun _ => False) x V pd F W) (hf : Fits c) (hc : chk c = 0) (hb : fewS x V = true) : AuAt w x c V pd F W := by
 obtain ⟨c10, c13, c4⟩ := au_cfg hf hc
 obtain ⟨b1, b2, b3, b4, b5, b6⟩ := few_len hb
 have h1 := h.vn
 have h2 := h.pn
 have h3 := h.fn
 have h4 := h.wn
 exact ⟨h, by omega, by omega, by omega, by omega, few_wd (few_all hb), c10, c13, c4⟩
theorem few_call {w : World} {x : Sx} {V : List Val} {pd F W : List Int} (h : SxAt w (fun _ => False) x V pd F W) : ∀ W1, Below w.heap.size w W1 → CallB 11 #[.agg (cellsSt x)] W1 (.bool (fewS x V)) := fun W1 hb =>
 few_any _ x V W1 (h.vl.below hb) h.vn (Nat.le_trans h.vc.1 h.vc.2) (Nat.le_trans h.pc.1 h.pc.2) (Nat.le_trans h.fc.1 h.fc.2) (Nat.le_trans h.wc.1 h.wc.2) h.nums.mn h.nums.tn
set_option maxHeartbeats 1600000 in
theorem cloneI_any (S : Nat → Prop) (a : Option Addr) (n c : Nat) (l : List Int) (w : World) (h : IntsAt w S a l) (hl : l.length = n) (hn : n ≤ 1000000) :
  Calls Tryz.prog 26 #[.slice a n c] w fun e w' => ∃ v, e = .returned v ∧ OwnI w' w.heap.size v l ∧ Below w.heap.size w w' := by
 rcases a with _ | a
 ·have h0 : n = 0 := by
   rcases Nat.eq_zero_or_pos n with h0 | h0
   ·exact h0
   ·obtain ⟨b, off, e, _⟩ := h (by omega)
    cases e
  have hn0 : l = [] := List.eq_nil_of_length_eq_zero (by omega)
  subst hn0
  subst h0
  have hq : ∀ w, (binOp .eql 24 (.slice none 0 c) (.slice none 0 0)).run Tryz.prog w = .ok (.bool true) w := fun w => Lib.run_eql_slice_nil w _ _ _ _ _ _ _ Tryz.underlying24
  clear h hl hn
  go_enter Tryz.func26, Tryz.ntmps26
  go_wp2
  go_ret
  exact ⟨_, rfl, World.ownsRow_nil _ _ _ _, Below.refl _ _⟩
 ·have hq : ∀ w, (binOp .eql 24 (.slice (some a) n c) (.slice none 0 0)).run Tryz.prog w = .ok (.bool false) w := fun w => Lib.run_eql_slice_nil w _ _ _ _ _ _ _ Tryz.underlying24
  obtain ⟨i, hi, hz, hs, hby⟩ := int_app
  have BE : Hid (Blk (w.alloc (.cells #[] 3)) w.heap.size 3 #[]) := Lib.hid (Blk.new w _ _)
  have BA : Hid (Below w.heap.size w (w.alloc (.cells #[] 3))) := Lib.hid ((Below.refl _ _).alloc (Nat.le_refl _) _)
  have HS : Hid (IntsAt (w.alloc (.cells #[] 3)) S (some a) l) := Lib.hid (h.below BA.out)
  have HL := Lib.hid hl
  have O0 : Hid (OwnI (w.alloc (.cells #[] 3)) w.heap.size (.slice (some ⟨w.heap.size, 0, none⟩) 0 0) []) := Lib.hid (owns_empty BE.out (Nat.le_refl _))
  clear h hl
  go_enter Tryz.func26, Tryz.ntmps26
  go_wp2_with (first | (refine arm_catI O0.out HS.out HL.out rfl _ _ rfl rfl rfl (by simp; omega) (by simp) ?_; intro v w1 ho hg))
  have HO : Hid (OwnI w1 w.heap.size v l) := Lib.hid ho
  have HB : Hid (Below w.heap.size w w1) := Lib.hid (O0.out.grown BA.out (by simp) hg)
  clear ho hg O0 BE BA HS
  go_wp2
  go_ret
  exact ⟨v, rfl, HO.out, HB.out⟩
end
end Go.Proofs.YtobgbcdgffgdhaaGreat
