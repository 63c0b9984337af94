/- Parts of a slice of integers, as sources of append. -/
import Derived.Test.YtinndmglacfofaaRefE
namespace Go.Proofs.Ytinndmglacfofaa
open Go Go.RowKit Go.Deep
set_option linter.unusedVariables false
set_option linter.unusedSimpArgs false

theorem one_ints {xs : List Value} {A : List Int} (h : xs = A.map (Value.int .i64)) : ∀ u ∈ xs, u.oneCell' = true := by
  subst h
  intro u hu
  obtain ⟨x, _, rfl⟩ := List.mem_map.1 hu
  rfl
theorem exec_lo {ρ : Operand → Value} {o : Oper} {x y : Operand} {a : Option Addr} {k c p : Nat} (ho : o.op = .slice 27 x none (some y) none) (hx : ρ x = .slice a k c) (hy : ρ y = .int .i64 p) (hp : p ≤ c) (w : World) :
    (execOp ρ o).run Try.prog w = .ok (.value (sliced a 0 p c 1)) w := by
  obtain ⟨i, hi, h1, h2, h3⟩ := int_app
  have hu := Try.underlying27
  have he : Try.prog.elem 27 = 3 := by simp [Program.elem, hu]
  have hs : (sizeOf (Try.prog.elem 27)).run Try.prog w = .ok 1 w := by rw [he]; simp [sizeOf, typeInfo, hi, h2]
  have := run_slice_h (P := Try.prog) (w := w) 27 a k c (by rw [he]; exact hu) .i64 (p : Int) (by omega) (by omega)
  have h4 := run_sliceAt_slice (P := Try.prog) (w := w) 27 (.slice a k c) none (some (.int .i64 p)) none (by rw [he]; exact hu)
  simp [execOp, ho, hx, hy, h4, this, hs, Result.andThen]
theorem exec_hi {ρ : Operand → Value} {o : Oper} {x y : Operand} {a : Option Addr} {k c p : Nat} (ho : o.op = .slice 27 x (some y) none none) (hx : ρ x = .slice a k c) (hy : ρ y = .int .i64 p) (hp : p ≤ k) (w : World) :
    (execOp ρ o).run Try.prog w = .ok (.value (sliced a p k c 1)) w := by
  obtain ⟨i, hi, h1, h2, h3⟩ := int_app
  have hu := Try.underlying27
  have he : Try.prog.elem 27 = 3 := by simp [Program.elem, hu]
  have hs : (sizeOf (Try.prog.elem 27)).run Try.prog w = .ok 1 w := by rw [he]; simp [sizeOf, typeInfo, hi, h2]
  have := run_slice_l (P := Try.prog) (w := w) 27 a k c (by rw [he]; exact hu) .i64 (p : Int) (by omega) (by omega)
  have h4 := run_sliceAt_slice (P := Try.prog) (w := w) 27 (.slice a k c) (some (.int .i64 p)) none none (by rw [he]; exact hu)
  simp [execOp, ho, hx, hy, h4, this, hs, Result.andThen]
def loA (a : Option Addr) (c : Nat) : Option Addr := if c = 0 then a else a.map (·.add (0 * 1))
def hiA (a : Option Addr) (p c : Nat) : Option Addr := if c = p then a else a.map (·.add (p * 1))
theorem sliced_lo (a : Option Addr) (p c : Nat) : sliced a 0 p c 1 = .slice (loA a c) p c := by simp [sliced, loA]
theorem sliced_hi (a : Option Addr) (p k c : Nat) : sliced a p k c 1 = .slice (hiA a p c) (k - p) (c - p) := rfl
theorem lo_src {w : World} {base : Nat} {a : Option Addr} {k c p : Nat} {xs ys : List Value} (h : w.ownsRow base 3 1 (.slice a k c) k (xs ++ ys)) (hp : xs.length = p) (hk : p ≤ k) :
    0 < p → ∃ ad, loA a c = some ad ∧ ∀ j u, xs[j]? = some u → w.cell? (ad.add j) = some u := fun h0 => by
  rcases h.2 with ⟨h1, h2⟩ | ⟨g, cp', cur, h1, _, _, h3, _⟩
  · omega
  · injection h1 with h1 _ h2
    subst h1 h2
    refine ⟨⟨g, 0, none⟩, by simp [loA, add_plain], fun j u hu => ?_⟩
    exact h.cells (g := g) rfl j u (by rw [List.getElem?_append_left (List.getElem?_eq_some_iff.1 hu).1]; exact hu)
theorem hi_src {w : World} {base : Nat} {a : Option Addr} {k c p : Nat} {xs ys : List Value} (h : w.ownsRow base 3 1 (.slice a k c) k (xs ++ ys)) (hp : xs.length = p) :
    0 < k - p → ∃ ad, hiA a p c = some ad ∧ ∀ j u, ys[j]? = some u → w.cell? (ad.add j) = some u := fun h0 => by
  rcases h.2 with ⟨h1, h2⟩ | ⟨g, cp', cur, h1, _, _, h3, _⟩
  · omega
  · injection h1 with h1 _ h2
    subst h1 h2
    refine ⟨⟨g, p, none⟩, by rw [hiA, if_neg (by omega)]; simp [add_plain], fun j u hu => ?_⟩
    have := h.cells (g := g) rfl (p + j) u (by rw [List.getElem?_append_right (by omega), hp, Nat.add_sub_cancel_left]; exact hu)
    rw [add_plain] at this ⊢
    rwa [Nat.zero_add] at this
theorem new_one {w w1 : World} {x : Value} {t : TypeId} {row : Option Nat} (hg : (w.alloc (.cells #[x] t)).grownBy w1 row) (hr : row ≠ some w.heap.size) : ∀ j u, [x][j]? = some u → w1.cell? ((⟨w.heap.size, 0, none⟩ : Addr).add j) = some u := fun j u hu => by
  have h1 := cell_one_new w x t j u hu
  rw [← h1]
  rw [add_plain]
  exact World.cell?_of_block (hg.block w.heap.size (by simp) (fun e => hr e.symm))
/-- What All has gathered. -/
structure AllR (w0 w : World) (t : List Ent) (v4 v5 : Value) : Prop where
  e : w.ownsRow w0.heap.size 3 1 v4 t.length (epsOf t)
  i : w.ownsRow w0.heap.size 3 1 v5 t.length (itsOf t)
  below : Below w0.heap.size w0 w
theorem AllR.step {w0 w w' : World} {t : List Ent} {v4 v5 : Value} (h : AllR w0 w t v4 v5) (b : Below w.heap.size w w') : AllR w0 w' t v4 v5 :=
  ⟨owns_same h.e fun i hi => b.block i (h.e.lt i hi).2, owns_same h.i fun i hi => b.block i (h.i.lt i hi).2, h.below.trans (b.mono h.below.size)⟩
end Go.Proofs.Ytinndmglacfofaa
