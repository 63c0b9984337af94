/- A law's own lanes and meter. -/
import Derived.Test.YtkeclanbebiogaaAsgEq
namespace Go.Proofs.Ytkeclanbebiogaa
open Go Go.RowKit
set_option linter.unusedVariables false
set_option linter.unusedSimpArgs false
set_option maxRecDepth 100000

/-- Lanes and a meter made since w0. -/
def Pr (w0 w : World) (b m nn : Nat) (S : Nat → Prop) (F V : List Int) (B Sp : Int) : Prop :=
  Ln w b S nn F V ∧ (∃ T D, MetAt w m B Sp T D ∧ Fits B Sp T D) ∧ ¬ S m ∧ (∀ i, S i → w0.heap.size ≤ i) ∧ w0.heap.size ≤ m ∧ Below w0.heap.size w0 w
/-- What a boundary hands back and leaves. -/
def StepAt (w0 w : World) (b m nn : Nat) (S : Nat → Prop) (ep : Int) (r : List (Int × Int) × List Int × List Int × Int) (G : Int) (e : Ending) (w' : World) : Prop :=
  ∃ a c S', e = .returned (.slice a r.1.length c) ∧ Hid (Pr w0 w' b m nn S' r.2.1 r.2.2.1 (balOf r) (G - r.2.2.2)) ∧ Hid (∀ i, S' i → S i ∨ w.heap.size ≤ i) ∧ Hid (AAt w' (fun i => i < w.heap.size ∨ S' i) a ep r.1) ∧ Hid (Kept (fun i => i = m ∨ S i) w w')
def Turned (w0 w : World) (b m nn : Nat) (S : Nat → Prop) (F V : List Int) (B Sp : Int) (w' : World) : Prop := ∃ S', Hid (Pr w0 w' b m nn S' F V B Sp) ∧ Hid (Goes S S' w w')
section
variable {w0 w w' : World} {b m nn : Nat} {S T : Nat → Prop} {F V L : List Int} {B Sp x ep : Int} {wa : Option Addr} {cap : Nat}
theorem Pr.kept (h : Pr w0 w b m nn S F V B Sp) (k : Kept T w w') (hT : ∀ i, S i → ¬ T i) (hm : ¬ T m) (hL : ∀ i, T i → w0.heap.size ≤ i) : Pr w0 w' b m nn S F V B Sp := by
  obtain ⟨h1, ⟨Tk, D, h2, h3⟩, h4, h5, h6, h7⟩ := h
  exact ⟨h1.kept k hT, ⟨Tk, D, Blk.kept (w := w) h2 k hm, h3⟩, h4, h5, h6, Kept.below h7 k hL h7.size⟩
theorem Pr.below (h : Pr w0 w b m nn S F V B Sp) (k : Below w.heap.size w w') : Pr w0 w' b m nn S F V B Sp := h.kept (Kept.of_below (S := fun _ => False) k) (fun _ _ h => h) id (fun _ h => h.elim)
theorem Pr.drewN (h : Pr w0 w b m nn S F V B Sp) (q : Nat) : Pr w0 (w.drewN q) b m nn S F V B Sp := h.below (below_drewN (Below.refl _ _) q)
theorem Pr.alloc (h : Pr w0 w b m nn S F V B Sp) (o : Obj) : Pr w0 (w.alloc o) b m nn S F V B Sp := h.below ((Below.refl _ _).alloc (Nat.le_refl _) o)
theorem Pr.mlt (h : Pr w0 w b m nn S F V B Sp) : m < w.heap.size := by obtain ⟨h1, ⟨Tk, D, h2, h3⟩, _⟩ := h; exact Blk.lt h2
theorem Pr.bal (h : Pr w0 w b m nn S F V B Sp) : 0 ≤ B ∧ B ≤ 18446744073709551615 ∧ 0 ≤ Sp ∧ Sp ≤ 18446744073709551615 := by obtain ⟨h1, ⟨Tk, D, h2, h3⟩, _⟩ := h; unfold Fits at h3; omega
theorem Pr.balance (h : Pr w0 w b m nn S F V B Sp) : Calls Try.prog 17 #[.pointer (some ⟨m, 0, none⟩)] w fun e w' => e = .returned (.int .u64 B) ∧ ∃ q, w' = w.drewN q := by
  obtain ⟨h1, ⟨Tk, D, h2, h3⟩, _⟩ := h
  exact balance_any m B Sp Tk D w h2 h3
theorem Pr.spent (h : Pr w0 w b m nn S F V B Sp) : Calls Try.prog 22 #[.pointer (some ⟨m, 0, none⟩)] w fun e w' => e = .returned (.int .u64 Sp) ∧ ∃ q, w' = w.drewN q := by
  obtain ⟨h1, ⟨Tk, D, h2, h3⟩, _⟩ := h
  exact spent_any m B Sp Tk D w h2 h3
theorem Pr.head (h : Pr w0 w b m nn S F V B Sp) : Calls Try.prog 21 #[.pointer (some ⟨b, 0, none⟩)] w fun e w' => e = .returned (.tuple #[.int .i64 (hdI F V), .int .i64 (hdC F V), .bool (hdB F V)]) ∧ ∃ q, w' = w.drewN q := head_any h.1
theorem Pr.push (h : Pr w0 w b m nn S F V B Sp) (c x : Int) : Calls Try.prog 27 #[.pointer (some ⟨b, 0, none⟩), .int .i64 c, .int .i64 x] w fun e w' => e = .returned (.int .i64 (errP nn F V c)) ∧ Turned w0 w b m nn S (pushF nn F c x) (pushV nn V c x) B Sp w' := by
  obtain ⟨h1, ⟨Tk, D, h2, h3⟩, h4, h5, h6, h7⟩ := h
  refine (push_any c x h1).mono ?_
  rintro e w' ⟨he, S', hl, hg⟩
  refine ⟨he, S', Lib.hid ⟨hl, ⟨Tk, D, Blk.kept (w := w) h2 hg.1 h4, h3⟩, fun e => (hg.2 m e).elim h4 (fun e => by have := Blk.lt h2; omega), fun i hi => (hg.2 i hi).elim (h5 i) (fun e => Nat.le_trans h7.size e), h6, Kept.below h7 hg.1 h5 h7.size⟩, Lib.hid hg⟩
theorem Pr.step (h : Pr w0 w b m nn S F V B Sp) (hu : UAt w (fun i => w0.heap.size ≤ i) wa L) (hL : L.length ≤ 9223372036854775807) (hA : Amts L) (hx : 0 ≤ x) (he0 : 0 ≤ ep) (he1 : ep ≤ 1099511627776) :
    Calls Try.prog 14 #[.int .i64 ep, .pointer (some ⟨b, 0, none⟩), .pointer (some ⟨m, 0, none⟩), .int .u64 x, .slice wa L.length cap] w (StepAt w0 w b m nn S (ep + 1) (stp (wOf L) F V B x) (gr B x)) := by
  obtain ⟨h1, ⟨Tk, D, h2, h3⟩, h4, h5, h6, h7⟩ := h
  refine (step_any h1 h2 h3 h4 (hu.other (fun i _ e => e.elim (fun e => by omega) (h5 i))) hL hA hx he0 he1).mono ?_
  rintro e w' ⟨a, c, he, H⟩
  obtain ⟨S1, T1, D1, k1, k2, k3, k4, k5, k6, k7, k8, k9⟩ := H.out
  refine ⟨a, c, S1, he, Lib.hid ⟨k1, ⟨T1, D1, k4, k5⟩, k3, fun i hi => (k2 i hi).elim (h5 i) (fun e => Nat.le_trans h7.size e), h6, Kept.below h7 k8 (fun i e => e.elim (fun e => by omega) (h5 i)) h7.size⟩, Lib.hid k2, Lib.hid (asg_of_owns k6 rfl (fun i hi e => e.elim (fun e => by have := (k6.lt i hi).1; omega) (k7 i hi))), Lib.hid k8⟩
/-- The same, where the weights lie in a block apart. -/
theorem Pr.step_new (h : Pr w0 w b m nn S F V B Sp) (hu : UAt w (fun i => i = m ∨ S i) wa L) (hL : L.length ≤ 9223372036854775807) (hA : Amts L) (hx : 0 ≤ x) (he0 : 0 ≤ ep) (he1 : ep ≤ 1099511627776) :
    Calls Try.prog 14 #[.int .i64 ep, .pointer (some ⟨b, 0, none⟩), .pointer (some ⟨m, 0, none⟩), .int .u64 x, .slice wa L.length cap] w (StepAt w0 w b m nn S (ep + 1) (stp (wOf L) F V B x) (gr B x)) := by
  obtain ⟨h1, ⟨Tk, D, h2, h3⟩, h4, h5, h6, h7⟩ := h
  refine (step_any h1 h2 h3 h4 hu hL hA hx he0 he1).mono ?_
  rintro e w' ⟨a, c, he, H⟩
  obtain ⟨S1, T1, D1, k1, k2, k3, k4, k5, k6, k7, k8, k9⟩ := H.out
  refine ⟨a, c, S1, he, Lib.hid ⟨k1, ⟨T1, D1, k4, k5⟩, k3, fun i hi => (k2 i hi).elim (h5 i) (fun e => Nat.le_trans h7.size e), h6, Kept.below h7 k8 (fun i e => e.elim (fun e => by omega) (h5 i)) h7.size⟩, Lib.hid k2, Lib.hid (asg_of_owns k6 rfl (fun i hi e => e.elim (fun e => by have := (k6.lt i hi).1; omega) (k7 i hi))), Lib.hid k8⟩
end
/-- Lanes first, then a meter. -/
theorem pr_new {w0 w1 w' : World} {nn : Nat} {b : Nat} {S : Nat → Prop} (hl : Ln w1 b S nn [] []) (hS : ∀ i, S i → w0.heap.size ≤ i) (hb : Below w0.heap.size w0 w1) (hm : MetAt w' w1.heap.size 0 0 0 0) (hk : Below w1.heap.size w1 w') : Pr w0 w' b w1.heap.size nn S [] [] 0 0 :=
  ⟨hl.below hk, ⟨0, 0, hm, fits_zero⟩, fun e => Nat.lt_irrefl _ (hl.lt _ e), hS, hb.size, hb.trans (hk.mono hb.size)⟩
end Go.Proofs.Ytkeclanbebiogaa
