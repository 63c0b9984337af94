/- A configuration that came in, by value: its twenty numbers. -/
import Derived.Test.YtjleklhajmhekaaCfg
import Derived.Deep.Fields
import Derived.ChangeArms
import Derived.WideShapes
import Derived.ChangeAt
namespace Go.Proofs.Ytjleklhajmhekaa
open Go Go.ChangeShapes Go.WideShapes Go.RowKit Go.Deep

section
variable {H : Type} {enc : TypeId × Value → H} {P : Program} {w : World} {base : Nat} {spare : Nat → Bool} {held : Bool}
/-- A struct of one-cell fields, by value: each integer field's number. -/
theorem open_struct_ints {r : Reach} {b0 : Nat} {t : TypeId} {fs : Array Field} {v : Value} {d : DataW H} {p : List MemPlace} (hs : P.underlying t = some (.struct fs)) (hone : oneCellFields P fs = true) (hC : P.cellsOf t = fs.size)
    (hv : Value.okWide P w r b0 t v) (h : DataW.Trod enc P w base spare held t v d p) :
    ∃ cs : Array Value, v = .agg cs ∧ cs.size = fs.size ∧ ∀ (j : Nat) (f : Field) (k : IntKind), fs[j]? = some f → P.underlying f.type = some (.int k) → ∃ n, cs[j]? = some (.int k n) ∧ (Lit.int k n).wf = true := by
  obtain ⟨cs, rfl, hsz⟩ := okWide_struct hs hv
  refine ⟨cs, rfl, hsz.trans hC, fun j f k hj hk => ?_⟩
  obtain ⟨fuel, hf⟩ := h
  obtain ⟨xs, n, _, hx, _, hlen, hg⟩ := DataW.trod_struct hs hf
  obtain ⟨o, kk⟩ := hone_of hone j f hj
  have hjl : j < fs.size := (Array.getElem?_eq_some_iff.1 hj).1
  have hjc : j < cs.size := by omega
  have h1 := hg j f hj
  have hxj : xs[j]? = some (xs[j]'(by omega)) := List.getElem?_eq_getElem (by omega)
  rw [o, kk, hxj] at h1
  have hone' : ((Value.agg cs).cells.toList.drop j).take 1 = [cs[j]'hjc] := by
    have hl : j < cs.toList.length := by simpa using hjc
    show (cs.toList.drop j).take 1 = _
    rw [List.drop_eq_getElem_cons hl]
    simp
  rw [hone'] at h1
  obtain ⟨m, hm, _, hw⟩ := DataW.trod_int hk h1
  exact ⟨m, by rw [Array.getElem?_eq_getElem hjc]; simpa using hm, hw⟩
end

def cfgOf (x0 x1 x2 x3 x4 x5 x6 x7 x8 x9 x10 x11 x12 x13 x14 x15 x16 x17 x18 x19 : Int) : Nat → Int
  | 0 => x0
  | 1 => x1
  | 2 => x2
  | 3 => x3
  | 4 => x4
  | 5 => x5
  | 6 => x6
  | 7 => x7
  | 8 => x8
  | 9 => x9
  | 10 => x10
  | 11 => x11
  | 12 => x12
  | 13 => x13
  | 14 => x14
  | 15 => x15
  | 16 => x16
  | 17 => x17
  | 18 => x18
  | 19 => x19
  | _ => 0
theorem open_T26 {H : Type} {enc : TypeId × Value → H} {w : World} {base : Nat} {spare : Nat → Bool} {held : Bool} {r : Reach} {b0 : Nat} {v : Value} {d : DataW H} {p : List MemPlace}
    (hv : Value.okWide Try.prog w r b0 26 v) (h : DataW.Trod enc Try.prog w base spare held 26 v d p) : ∃ c : Nat → Int, v = .agg (cellsOf c) ∧ Fits c := by
  obtain ⟨cs, rfl, hsz, H⟩ := open_struct_ints Try.underlying26 (by kernel_rfl) (by kernel_rfl) hv h
  obtain ⟨n0, h0, w0⟩ := H 0 _ .i64 rfl Try.underlying3
  obtain ⟨n1, h1, w1⟩ := H 1 _ .i64 rfl Try.underlying3
  obtain ⟨n2, h2, w2⟩ := H 2 _ .u64 rfl Try.underlying22
  obtain ⟨n3, h3, w3⟩ := H 3 _ .u64 rfl Try.underlying22
  obtain ⟨n4, h4, w4⟩ := H 4 _ .u64 rfl Try.underlying22
  obtain ⟨n5, h5, w5⟩ := H 5 _ .u64 rfl Try.underlying22
  obtain ⟨n6, h6, w6⟩ := H 6 _ .u64 rfl Try.underlying22
  obtain ⟨n7, h7, w7⟩ := H 7 _ .u64 rfl Try.underlying22
  obtain ⟨n8, h8, w8⟩ := H 8 _ .u64 rfl Try.underlying22
  obtain ⟨n9, h9, w9⟩ := H 9 _ .u64 rfl Try.underlying22
  obtain ⟨n10, h10, w10⟩ := H 10 _ .i64 rfl Try.underlying3
  obtain ⟨n11, h11, w11⟩ := H 11 _ .i64 rfl Try.underlying3
  obtain ⟨n12, h12, w12⟩ := H 12 _ .i64 rfl Try.underlying3
  obtain ⟨n13, h13, w13⟩ := H 13 _ .i64 rfl Try.underlying3
  obtain ⟨n14, h14, w14⟩ := H 14 _ .i64 rfl Try.underlying3
  obtain ⟨n15, h15, w15⟩ := H 15 _ .i64 rfl Try.underlying3
  obtain ⟨n16, h16, w16⟩ := H 16 _ .i64 rfl Try.underlying3
  obtain ⟨n17, h17, w17⟩ := H 17 _ .i64 rfl Try.underlying3
  obtain ⟨n18, h18, w18⟩ := H 18 _ .u64 rfl Try.underlying22
  obtain ⟨n19, h19, w19⟩ := H 19 _ .u64 rfl Try.underlying22
  obtain ⟨l⟩ := cs
  match l, hsz with
  | [c0, c1, c2, c3, c4, c5, c6, c7, c8, c9, c10, c11, c12, c13, c14, c15, c16, c17, c18, c19], _ =>
    obtain rfl := Option.some.inj h0
    obtain rfl := Option.some.inj h1
    obtain rfl := Option.some.inj h2
    obtain rfl := Option.some.inj h3
    obtain rfl := Option.some.inj h4
    obtain rfl := Option.some.inj h5
    obtain rfl := Option.some.inj h6
    obtain rfl := Option.some.inj h7
    obtain rfl := Option.some.inj h8
    obtain rfl := Option.some.inj h9
    obtain rfl := Option.some.inj h10
    obtain rfl := Option.some.inj h11
    obtain rfl := Option.some.inj h12
    obtain rfl := Option.some.inj h13
    obtain rfl := Option.some.inj h14
    obtain rfl := Option.some.inj h15
    obtain rfl := Option.some.inj h16
    obtain rfl := Option.some.inj h17
    obtain rfl := Option.some.inj h18
    obtain rfl := Option.some.inj h19
    refine ⟨cfgOf n0 n1 n2 n3 n4 n5 n6 n7 n8 n9 n10 n11 n12 n13 n14 n15 n16 n17 n18 n19, rfl, fun k hk => ?_⟩
    have : k = 0 ∨ k = 1 ∨ k = 2 ∨ k = 3 ∨ k = 4 ∨ k = 5 ∨ k = 6 ∨ k = 7 ∨ k = 8 ∨ k = 9 ∨ k = 10 ∨ k = 11 ∨ k = 12 ∨ k = 13 ∨ k = 14 ∨ k = 15 ∨ k = 16 ∨ k = 17 ∨ k = 18 ∨ k = 19 := by omega
    rcases this with rfl | rfl | rfl | rfl | rfl | rfl | rfl | rfl | rfl | rfl | rfl | rfl | rfl | rfl | rfl | rfl | rfl | rfl | rfl | rfl
    · exact w0
    · exact w1
    · exact w2
    · exact w3
    · exact w4
    · exact w5
    · exact w6
    · exact w7
    · exact w8
    · exact w9
    · exact w10
    · exact w11
    · exact w12
    · exact w13
    · exact w14
    · exact w15
    · exact w16
    · exact w17
    · exact w18
    · exact w19
end Go.Proofs.Ytjleklhajmhekaa
