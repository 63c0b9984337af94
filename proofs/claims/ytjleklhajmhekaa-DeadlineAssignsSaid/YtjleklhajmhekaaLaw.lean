/- What the laws on bounds hold: an exit and a configuration in boxes; the functions called with their fields. -/
import Derived.Test.YtjleklhajmhekaaLive
import Derived.Test.YtjleklhajmhekaaEx
import Derived.Test.YtjleklhajmhekaaOpen
import Derived.Outline
import Derived.Deep.Cut
namespace Go.Proofs.Ytjleklhajmhekaa
open Go Go.RowKit
set_option linter.unusedVariables false
set_option linter.unusedSimpArgs false
set_option maxRecDepth 100000

/-- An exit in block i, a configuration in block j; nothing that was there before has changed. -/
def Bx (w0 w : World) (v : Ex) (c : Nat → Int) (i j : Nat) : Prop := Blk w i 24 (cellsEx v) ∧ Blk w j 26 (cellsOf c) ∧ Below w0.heap.size w0 w ∧ w0.heap.size ≤ w.heap.size
section
variable {w0 w w' : World} {v : Ex} {c : Nat → Int} {i j : Nat}
theorem Bx.new (w : World) (v : Ex) (c : Nat → Int) : Bx w ((w.alloc (.cells (cellsEx v) 24)).alloc (.cells (cellsOf c) 26)) v c w.heap.size (w.heap.size + 1) := by
  refine ⟨(Blk.new w _ _).alloc _, ?_, ((Below.refl _ _).alloc (Nat.le_refl _) _).alloc (by simp) _, by simp; omega⟩
  have := Blk.new (w.alloc (.cells (cellsEx v) 24)) 26 (cellsOf c)
  rwa [show (w.alloc (.cells (cellsEx v) 24)).heap.size = w.heap.size + 1 by simp] at this
theorem Bx.next (h : Bx w0 w v c i j) (b : Below w.heap.size w w') : Bx w0 w' v c i j := ⟨h.1.below b h.1.lt, h.2.1.below b h.2.1.lt, h.2.2.1.trans (b.mono h.2.2.2), Nat.le_trans h.2.2.2 b.size⟩
theorem Bx.drew (h : Bx w0 w v c i j) : Bx w0 w.drew v c i j := ⟨h.1, h.2.1, h.2.2.1.drew, h.2.2.2⟩
theorem Bx.x0 (h : Bx w0 w v c i j) : w.cell? ⟨i, 0, none⟩ = some (.int .i64 v.ep) := h.1.cell 0
theorem Bx.x1 (h : Bx w0 w v c i j) : w.cell? ⟨i, 1, none⟩ = some (.int .u64 v.ah) := h.1.cell 1
theorem Bx.x2 (h : Bx w0 w v c i j) : w.cell? ⟨i, 2, none⟩ = some (.int .u64 v.wt) := h.1.cell 2
theorem Bx.c10 (h : Bx w0 w v c i j) : w.cell? ⟨j, 10, none⟩ = some (.int .i64 (c 10)) := h.2.1.cell 10
theorem Bx.call {f : FuncId} {args : Array Value} {u : Value} (h : Bx w0 w v c i j) (H : Calls Try.prog f args w fun e w' => e = .returned u ∧ Below w.heap.size w w') : Calls Try.prog f args w fun e w' => e = .returned u ∧ Bx w0 w' v c i j :=
  H.mono fun e w' ⟨he, hb⟩ => ⟨he, h.next hb⟩
end
theorem laterIs_pair (o : Option Int) : ∃ k b, laterIs o = .tuple #[.int .i64 k, .bool b] := by cases o <;> exact ⟨_, _, rfl⟩
section
variable {v : Ex} {c : Nat → Int}
theorem law_b (hg : Good c) (hv : FitsEx v) (w : World) : Calls Try.prog 11 #[.int .u64 v.ah, .int .u64 v.wt, .agg (cellsOf c)] w fun o w' => o = .returned (laterIs (bnd v.ah v.wt c)) ∧ Below w.heap.size w w' :=
  boundaries_any hg (bounds_u64 hv.2.1) (bounds_u64 hv.2.2) w
theorem law_rb (hg : Good c) (hv : FitsEx v) (w : World) : Calls Try.prog 12 #[.int .u64 v.ah, .int .u64 v.wt, .agg (cellsOf c)] w fun o w' => o = .returned (laterIs (bnd v.ah v.wt c)) ∧ Below w.heap.size w w' :=
  refBoundaries_any hg (bounds_u64 hv.2.1) (bounds_u64 hv.2.2) w
theorem law_x (hg : Good c) (hv : FitsEx v) (w : World) : Calls Try.prog 13 #[.int .i64 v.ep, .int .u64 v.ah, .int .u64 v.wt, .agg (cellsOf c)] w fun o w' => o = .returned (laterIs (lastE v.ah v.wt c 0 v.ep)) ∧ Below w.heap.size w w' := by
  have := exit_at hg (bounds_u64 hv.2.1) (bounds_u64 hv.2.2) v.ep w
  rwa [exitG_eq] at this
theorem law_w (hg : Good c) (hv : FitsEx v) (w : World) : Calls Try.prog 15 #[.int .i64 v.ep, .int .u64 v.ah, .int .u64 v.wt, .agg (cellsOf c)] w fun o w' => o = .returned (laterIs (lastE v.ah v.wt c (c 10) v.ep)) ∧ Below w.heap.size w w' := by
  have := withdraw_at hg (bounds_u64 hv.2.1) (bounds_u64 hv.2.2) v.ep w
  rwa [withdrawG_eq hg] at this
theorem law_p (hg : Good c) (hv : FitsEx v) (w : World) : Calls Try.prog 16 #[.int .i64 v.ep, .int .u64 v.ah, .int .u64 v.wt, .agg (cellsOf c)] w fun o w' => o = .returned (laterIs (lastE v.ah v.wt c (c 10 + sweepN c) v.ep)) ∧ Below w.heap.size w w' := by
  have := pay_at hg (bounds_u64 hv.2.1) (bounds_u64 hv.2.2) v.ep w
  rwa [payG_eq hg] at this
theorem law_rx (hg : Good c) (hv : FitsEx v) (w : World) : Calls Try.prog 14 #[.int .i64 v.ep, .int .u64 v.ah, .int .u64 v.wt, .agg (cellsOf c), .int .i64 0] w fun o w' => o = .returned (laterIs (lastE v.ah v.wt c 0 v.ep)) ∧ Below w.heap.size w w' :=
  bound_any hg (bounds_u64 hv.2.1) (bounds_u64 hv.2.2) _ _ (by omega) w
theorem law_rw (hg : Good c) (hv : FitsEx v) (w : World) : Calls Try.prog 14 #[.int .i64 v.ep, .int .u64 v.ah, .int .u64 v.wt, .agg (cellsOf c), .int .i64 (c 10)] w fun o w' => o = .returned (laterIs (lastE v.ah v.wt c (c 10) v.ep)) ∧ Below w.heap.size w w' :=
  bound_any hg (bounds_u64 hv.2.1) (bounds_u64 hv.2.2) _ _ (by have := hg.unb0; have := hg.unb1; omega) w
theorem law_rp (hg : Good c) (hv : FitsEx v) (w : World) : Calls Try.prog 17 #[.int .i64 v.ep, .int .u64 v.ah, .int .u64 v.wt, .agg (cellsOf c)] w fun o w' => o = .returned (laterIs (lastE v.ah v.wt c (c 10 + sweepN c) v.ep)) ∧ Below w.heap.size w w' :=
  refPay_any hg (bounds_u64 hv.2.1) (bounds_u64 hv.2.2) _ w
theorem lastE_some {a x m e s : Int} {c : Nat → Int} (h : lastE a x c m e = some s) : ∃ k, bnd a x c = some k ∧ 1 ≤ k ∧ 0 ≤ e ∧ e + k + 1 + m ≤ 1099511627776 ∧ s = e + k + 1 + m := by
  unfold lastE at h
  cases hk : bnd a x c with
  | none => rw [hk] at h; cases h
  | some k =>
    have := bnd_bd hk
    rw [hk] at h
    dsimp only at h
    split at h
    · rename_i h1
      injection h with h
      exact ⟨k, rfl, this.1, h1.1, h1.2, h.symm⟩
    · cases h
theorem lastE_is {a x m e k : Int} {c : Nat → Int} (h : bnd a x c = some k) (h0 : 0 ≤ e) (h1 : e + k + 1 + m ≤ 1099511627776) : lastE a x c m e = some (e + k + 1 + m) := by
  unfold lastE
  rw [h]
  exact if_pos ⟨h0, h1⟩
/-- Where there is a bound for the payment, there are the others, and they follow each other. -/
theorem steps_facts (hg : Good c) {a x e s : Int} (h : lastE a x c (c 10 + sweepN c) e = some s) :
    ∃ e1 e2, lastE a x c 0 e = some e1 ∧ lastE a x c (c 10) e = some e2 ∧ 0 ≤ e ∧ e + 2 ≤ e1 ∧ e2 = e1 + c 10 ∧ s = e2 + sweepN c ∧ s ≤ 1099511627776 := by
  obtain ⟨k, h1, h2, h3, h4, h5⟩ := lastE_some h
  have h6 := sweepN_bd hg
  have h7 := hg.unb0
  exact ⟨_, _, lastE_is h1 h3 (by omega), lastE_is h1 h3 (by omega), h3, by omega, by omega, by omega, by omega⟩
end
end Go.Proofs.Ytjleklhajmhekaa
