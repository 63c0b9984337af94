/- Words of the laws: Build's ways. -/
import Derived.Test.YthnhpmeacboljaaLiv
import Derived.Test.YthnhpmeacboljaaRls
import Derived.Test.YthnhpmeacboljaaRordr
namespace Go.Proofs.Ythnhpmeacboljaa
open Go Go.RowKit Go.Deep
set_option linter.unusedVariables false
set_option linter.unusedSimpArgs false
set_option maxRecDepth 100000

/-- Build: two logs, or two nil pointers. -/
theorem build_law (a : Option Addr) (n cp : Nat) (L : List Ev) (w : World) (h : PairsAt w a L) (hl : L.length = n) :
    Calls Try.prog 7 #[.slice a n cp] w fun e w' => (n ≤ 60 ∧ fewL L ∧ ∃ b rb, e = .returned (.tuple #[.pointer (some ⟨b, 0, none⟩), .pointer (some ⟨rb, 0, none⟩)]) ∧ BuildPost w w' b rb L) ∨ (e = .returned (.tuple #[.pointer none, .pointer none]) ∧ Below w.heap.size w w') := by
  by_cases hn : n ≤ 60
  · refine (build_any a n cp L w h hl hn).mono ?_
    rintro e w' (⟨h1, h2⟩ | ⟨-, h2, h3⟩)
    · exact .inl ⟨hn, h1, h2⟩
    · exact .inr ⟨h2, h3⟩
  · refine (build_many a n cp w (by omega)).mono ?_
    rintro e w' ⟨rfl, rfl⟩
    exact .inr ⟨rfl, Below.refl _ _⟩
/-- What Build left, carried on. -/
structure Two (w0 w : World) (b rb : Nat) (L : List Ev) : Prop where
  lg : ∃ T, LgAt w b T (stL L) (L.length : Int)
  rl : RLogAt w rb L
  bel : Below w0.heap.size w0 w
theorem Two.below {w0 w w' : World} {b rb : Nat} {L : List Ev} (h : Two w0 w b rb L) (hb : Below w.heap.size w w') : Two w0 w' b rb L :=
  ⟨h.lg.imp fun _ h => h.below hb, h.rl.below hb, h.bel.trans (hb.mono h.bel.size)⟩
theorem BuildPost.two {w w' : World} {b rb : Nat} {L : List Ev} (h : BuildPost w w' b rb L) : Two w w' b rb L := by
  obtain ⟨T, h1, h2, h3⟩ := h
  exact ⟨⟨T, h1⟩, h2, h3⟩
theorem Two.exit {w0 w : World} {b rb : Nat} {L : List Ev} (h : Two w0 w b rb L) (i : Int) (hi : (Lit.int .i64 i).wf = true) :
    Calls Try.prog 9 #[.pointer (some ⟨b, 0, none⟩), .int .i64 i] w fun e w' => e = .returned (.tuple #[.agg (cellsXv ((exitV (stL L) i).getD xvZ)), .bool (exitV (stL L) i).isSome]) ∧ Below w.heap.size w w' := by
  obtain ⟨T, hl⟩ := h.lg
  exact exitL_any b T _ _ i w hl hi
theorem Two.of {w0 w : World} {b rb : Nat} {L : List Ev} (h : Two w0 w b rb L) (i : Int) (hl : L.length ≤ 60) :
    Calls Try.prog 10 #[.pointer (some ⟨rb, 0, none⟩), .int .i64 i] w fun e w' => e = .returned (.tuple #[.agg (cellsXv ((exitV (stL L) i).getD xvZ)), .bool (exitV (stL L) i).isSome]) ∧ Below w.heap.size w w' :=
  of_any rb L i w h.rl (by omega)
theorem Two.alive {w0 w : World} {b rb : Nat} {L : List Ev} (h : Two w0 w b rb L) :
    Calls Try.prog 8 #[] w fun e w' => e = .returned (.bool true) ∧ Below w.heap.size w w' := alive_any w
theorem Two.len {w0 w : World} {b rb : Nat} {L : List Ev} (h : Two w0 w b rb L) : Calls Try.prog 11 #[.pointer (some ⟨b, 0, none⟩)] w fun e w' => e = .returned (.int .i64 (L.length : Int)) ∧ w = w' := by
  obtain ⟨T, hl⟩ := h.lg
  exact len_any b T _ _ w hl
theorem od_le {L : List Ev} {n : Nat} (h : L.length ≤ n) : (stL L).od.length ≤ n := Nat.le_trans (od_ind L).2.2 h
/-- The lists' lengths, where the receipts are few. -/
theorem small_of {w : World} {a : Option Addr} {L : List Ev} (h : PairsAt w a L) (hf : fewL L) : ∀ e ∈ L, e.la.length ≤ 60 ∧ e.lp.length ≤ 60 := fun e he => few_len (h.at_ e he).1 (hf e he)
end Go.Proofs.Ythnhpmeacboljaa
