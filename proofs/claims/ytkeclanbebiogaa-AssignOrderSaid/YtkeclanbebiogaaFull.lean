/- Lanes and a meter, and the reference's lanes and meter. -/
import Derived.Test.YtkeclanbebiogaaBegin
import Derived.Test.YtkeclanbebiogaaRStep
namespace Go.Proofs.Ytkeclanbebiogaa
open Go Go.RowKit
set_option linter.unusedVariables false
set_option linter.unusedSimpArgs false
set_option maxRecDepth 100000

section
variable {w0 w w' : World} {b m d nn : Nat} {S X X' : Nat → Prop} {F V RF RV : List Int} {B Sp : Int}
/-- More blocks are the law's. -/
theorem Law.more (h : Law w0 w b m d nn S X F V RF RV B Sp) (k : Below w.heap.size w w') (hX : ∀ i, X' i → X i ∨ (w.heap.size ≤ i ∧ i < w'.heap.size)) (hm : X' m) : Law w0 w' b m d nn S X' F V RF RV B Sp := by
  have hd := h.2.1.lt
  have hl := h.1.1.lt
  obtain ⟨h1, h2, h3, h4, h5, h6, h7, h8⟩ := h
  refine ⟨h1.below k, (h2.other (fun i hi e => e.elim .inl (fun e => (hX i e).elim .inr (fun e => by omega)))).below k, h3, fun e => (hX d e).elim h4 (fun e => by omega), hm, h6, fun i hi => ?_, fun i hi e => (hX i e).elim (h8 i hi) (fun e => by have := hl i hi; omega)⟩
  rcases hX i hi with e | e
  · exact ⟨(h7 i e).1, Nat.lt_of_lt_of_le (h7 i e).2 k.size⟩
  · exact ⟨by have := h1.2.2.2.2.2.size; omega, e.2⟩
end
/-- The reference's meter beside them. -/
def Full (w0 w : World) (b m d kk nn : Nat) (S : Nat → Prop) (F V RF RV : List Int) (B Sp RB RSp : Int) : Prop :=
  Law w0 w b m d nn S (fun i => i = m ∨ i = kk) F V RF RV B Sp ∧ kk ≠ m ∧ ∃ T D, MRefAt w kk RB RSp T D ∧ Fits RB RSp T D
section
variable {w0 w w' : World} {b m d kk nn : Nat} {S : Nat → Prop} {F V RF RV L : List Int} {B Sp RB RSp x ep : Int} {wa : Option Addr} {cap : Nat}
theorem Full.below (h : Full w0 w b m d kk nn S F V RF RV B Sp RB RSp) (k : Below w.heap.size w w') : Full w0 w' b m d kk nn S F V RF RV B Sp RB RSp := by
  obtain ⟨h1, h2, T, D, h3, h4⟩ := h
  exact ⟨h1.below k, h2, T, D, Blk.below (w := w) h3 k (Blk.lt h3), h4⟩
theorem Full.drewN (h : Full w0 w b m d kk nn S F V RF RV B Sp RB RSp) (q : Nat) : Full w0 (w.drewN q) b m d kk nn S F V RF RV B Sp RB RSp := h.below (below_drewN (Below.refl _ _) q)
theorem Full.alloc (h : Full w0 w b m d kk nn S F V RF RV B Sp RB RSp) (o : Obj) : Full w0 (w.alloc o) b m d kk nn S F V RF RV B Sp RB RSp := h.below ((Below.refl _ _).alloc (Nat.le_refl _) o)
theorem full_new (h : Law w0 w b m d nn S (fun i => i = m) F V RF RV B Sp) : Full w0 (w.alloc (.cells #[.int .u64 0, .int .u64 0, .int .u64 0, .int .u64 0, .int .u64 0] 37)) b m d w.heap.size nn S F V RF RV B Sp 0 0 :=
  ⟨h.more ((Below.refl _ _).alloc (Nat.le_refl _) _) (fun i e => e.imp id (fun e => by have : i = w.heap.size := e; simp; omega)) (.inl rfl), fun e => by have := h.1.mlt; omega, 0, 0, Blk.new _ _ _, fits_zero⟩
/-- push, beside the reference's meter. -/
theorem Full.push (h : Full w0 w b m d kk nn S F V RF RV B Sp RB RSp) (r : Rnd) (hr : RndAt w0 (fun _ => False) r) :
    Calls Try.prog 13 #[.pointer (some ⟨b, 0, none⟩), .pointer (some ⟨d, 0, none⟩), .agg (cellsR r)] w fun e w' => e = .returned (.tuple #[]) ∧ ∃ S', Hid (Full w0 w' b m d kk nn S' (pAll nn F r.F) (pAll nn V r.V) (pAll nn RF r.F) (pAll nn RV r.V) B Sp RB RSp) ∧ Hid (Kept (fun i => S i ∨ i = d) w w') ∧ Hid (∀ i, S' i → S i ∨ w.heap.size ≤ i) := by
  obtain ⟨h1, h2, T, D, h3, h4⟩ := h
  refine (push_round r h1 hr).mono ?_
  rintro e w' ⟨he, S', l, k, g⟩
  have hkd : ¬ (S kk ∨ kk = d) := fun e => e.elim (fun e => h1.2.2.2.2.2.2.2 kk e (.inr rfl)) (fun e => h1.2.2.2.1 (.inr e.symm))
  exact ⟨he, S', Lib.hid ⟨l.out, h2, T, D, Blk.kept (w := w) h3 k.out hkd, h4⟩, k, g⟩
/-- A boundary of the program's. -/
def FullStep (w0 w : World) (b m d kk nn : Nat) (S : Nat → Prop) (RF RV : List Int) (RB RSp ep : Int) (r : List (Int × Int) × List Int × List Int × Int) (sp : Int) (e : Ending) (w' : World) : Prop :=
  ∃ a c S', e = .returned (.slice a r.1.length c) ∧ Hid (Full w0 w' b m d kk nn S' r.2.1 r.2.2.1 RF RV (balOf r) sp RB RSp) ∧ Hid (∀ i, S' i → S i ∨ w.heap.size ≤ i) ∧ Hid (AAt w' (fun i => i < w.heap.size ∨ S' i) a ep r.1) ∧ Hid (Kept (fun i => i = m ∨ S i) w w')
theorem Full.step (h : Full w0 w b m d kk nn S F V RF RV B Sp RB RSp) (hu : UAt w (fun i => w0.heap.size ≤ i) wa L) (hL : L.length ≤ 9223372036854775807) (hA : Amts L) (hx : 0 ≤ x) (he0 : 0 ≤ ep) (he1 : ep ≤ 1099511627776) :
    Calls Try.prog 14 #[.int .i64 ep, .pointer (some ⟨b, 0, none⟩), .pointer (some ⟨m, 0, none⟩), .int .u64 x, .slice wa L.length cap] w (FullStep w0 w b m d kk nn S RF RV RB RSp (ep + 1) (stp (wOf L) F V B x) (sumW (wOf L) (stp (wOf L) F V B x).1)) := by
  obtain ⟨h1, h2, T, D, h3, h4⟩ := h
  refine (h1.step hu hL hA hx he0 he1).mono ?_
  rintro e w' ⟨a, c, S', he, l, g, aa, k⟩
  exact ⟨a, c, S', he, Lib.hid ⟨l.out, h2, T, D, Blk.kept (w := w) h3 k.out (fun e => e.elim h2 (fun e => h1.2.2.2.2.2.2.2 kk e (.inr rfl))), h4⟩, g, aa, k⟩
/-- A boundary of the reference's. -/
def FullRStep (w0 w : World) (b m d kk nn : Nat) (S : Nat → Prop) (F V : List Int) (B Sp ep : Int) (r : List (Int × Int) × List Int × List Int × Int) (sp : Int) (e : Ending) (w' : World) : Prop :=
  ∃ a c, e = .returned (.slice a r.1.length c) ∧ Hid (Full w0 w' b m d kk nn S F V r.2.1 r.2.2.1 B Sp (balOf r) sp) ∧ Hid (AAt w' (fun i => i < w.heap.size) a ep r.1) ∧ Hid (Kept (fun i => i = d ∨ i = kk) w w')
theorem Full.rstep (h : Full w0 w b m d kk nn S F V RF RV B Sp RB RSp) (hu : UAt w (fun i => w0.heap.size ≤ i) wa L) (hL : L.length ≤ 9223372036854775807) (hA : Amts L) (hx : 0 ≤ x) (he0 : 0 ≤ ep) (he1 : ep ≤ 1099511627776) :
    Calls Try.prog 15 #[.int .i64 ep, .pointer (some ⟨d, 0, none⟩), .pointer (some ⟨kk, 0, none⟩), .int .u64 x, .slice wa L.length cap] w (FullRStep w0 w b m d kk nn S F V B Sp (ep + 1) (stp (wOf L) RF RV RB x) (sumW (wOf L) (stp (wOf L) RF RV RB x).1)) := by
  obtain ⟨⟨p1, p2, p3, p4, p5, p6, p7, p8⟩, h2, T, D, h3, h4⟩ := h
  refine (rstep_any p2 h3 h4 (.inr (.inr rfl)) (fun e => p4 (.inr e)) (hu.other (fun i _ e => e.elim (fun e => by omega) (fun e => by have := (p7 kk (.inr rfl)).1; omega))) hL hA hx he0 he1).mono ?_
  rintro e w' ⟨a, c, he, hr⟩
  obtain ⟨T1, D1, r1, r2, r3, r4, r5, r6, r7, r8, r9⟩ := hr.out
  have hnd : ∀ i, S i → ¬ (i = d ∨ i = kk) := fun i hi e => e.elim (fun e => p3 (e ▸ hi)) (fun e => p8 i hi (.inr e))
  refine ⟨a, c, he, Lib.hid ⟨⟨p1.kept r5 hnd (fun e => e.elim (fun e => p4 (.inl e.symm)) (fun e => h2 e.symm)) (fun i e => e.elim (fun e => by omega) (fun e => by have := (p7 kk (.inr rfl)).1; omega)), r1.other (fun i _ e => .inl e), p3, p4, p5, p6, fun i hi => ⟨(p7 i hi).1, Nat.lt_of_lt_of_le (p7 i hi).2 r5.size⟩, p8⟩, h2, T1, D1, by rw [stp_spent] at r2; exact r2, by rw [stp_spent] at r3; exact r3⟩, Lib.hid (asg_of_owns r4 rfl (fun i hi e => by have := (r4.lt i hi).1; omega)), Lib.hid r5⟩
theorem MRefAt.bal (h : MRefAt w kk B Sp RB RSp) : w.cell? ⟨kk, 0, none⟩ = some (.int .u64 B) := h.cells.1
end
end Go.Proofs.Ytkeclanbebiogaa
