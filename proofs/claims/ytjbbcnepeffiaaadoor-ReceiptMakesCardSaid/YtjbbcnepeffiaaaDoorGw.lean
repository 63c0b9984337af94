/- gwei.Format and the reference's; strconv.Itoa; what the listed package variables give to the walks (stage 1's texts). -/
import Derived.Test.YtjbbcnepeffiaaaDoorFormat
import Derived.Test.YtjbbcnepeffiaaaDoorNames
import Derived.Test.YtjbbcnepeffiaaaDoorShelf
import Derived.Lib.ItoaNum
import Derived.LaidMore
import Derived.ProofKit
import Derived.OpenShut
import Derived.Stop.Joined
import Derived.Lib.LaidTab
import Derived.Stop.LaidErr
namespace Go.Proofs.YtjbbcnepeffiaaaDoor
open Go Go.ChangeShapes Go.WideShapes Go.ChangeAt Go.RowKit Go.OpenShut
set_option linter.unusedVariables false
set_option linter.unusedSimpArgs false
set_option maxRecDepth 100000

/-- What the walks ask of the table of powers of ten. -/
def PowTab (w : World) : Prop := Lib.TabIs Tryd.prog w "internal/strconv.uint64pow10" .u64 Lib.pow10Tab
theorem tab_below {P : Program} {w w' : World} {name : String} {k : IntKind} {zs : List Int} (h : Lib.TabIs P w name k zs) (hb : Below w.heap.size w w') : Lib.TabIs P w' name k zs := by
  unfold Lib.TabIs World.var? at *
  cases hg : P.globalNamed name with
  | none => simp [hg] at h
  | some g =>
    simp only [hg, Option.bind_some] at h ⊢
    have hlt : g < w.heap.size := by
      rcases Nat.lt_or_ge g w.heap.size with h' | h'
      · exact h'
      · rw [Array.getElem?_eq_none h'] at h; simp at h
    rw [hb.block g hlt]
    exact h
theorem powTab_below {w w' : World} (h : PowTab w) (hb : Below w.heap.size w w') : PowTab w' := tab_below h hb

theorem gformat_any (u : Nat) (hu : u < 18446744073709551616) (w : World) (ht : PowTab w) :
    Calls Tryd.prog 31 #[.int .u64 u] w fun e w' => e = .returned (.string ⟨(Lib.decDigits u).toArray⟩) ∧ Below w.heap.size w w' := by
  have h : ∀ w, PowTab w → Calls Tryd.prog 45 #[.int .u64 u, .int .i64 10] w fun e w' => e = .returned (.string ⟨(Lib.decDigits u).toArray⟩) ∧ Below w.heap.size w w' := fun w ht =>
    (formatUint_any u hu w ht).mono fun e w' ⟨h1, k, os, h2⟩ => ⟨h1, by rw [h2]; exact Lib.below_grow _ _ (Nat.le_refl _) k os⟩
  have H := Lib.hid h
  have HT := Lib.hid ht
  clear h ht
  generalize (Lib.decDigits u).toArray = s at *
  go_enter Tryd.func31, Tryd.ntmps31
  go_wp2_with (first | (go_at_call 45; refine (H.out _ HT.out).mono ?_; rintro e w' ⟨rfl, hb⟩) | go_in)
  go_ret
  exact ⟨rfl, hb⟩

theorem refmax_any (w : World) : Calls Tryd.prog 37 #[] w fun e w' => e = .returned (.int .u64 18446744073709551615) ∧ w = w' := by
  go_enter Tryd.func37, Tryd.ntmps37
  go_wp2
  go_ret
  exact ⟨rfl, rfl⟩

theorem dec_big {u : Nat} (h : ¬ u < 10) : Lib.decDigits u = Lib.decDigits (u / 10) ++ [UInt8.ofNat (48 + u % 10)] := by rw [Lib.decDigits, dif_neg h]
theorem bytes_append (a b : List UInt8) : ((⟨a.toArray⟩ : ByteArray) ++ (⟨b.toArray⟩ : ByteArray)) = ⟨(a ++ b).toArray⟩ := by
  apply ByteArray.ext
  simp [ByteArray.data_append]
theorem dec_short (u : Nat) (hu : u < 18446744073709551616) : (Lib.decDigits u).length ≤ 20 := by
  rw [Lib.decDigits_length]
  by_cases h : u < 10
  · rw [Lib.nDigits_small h]; decide
  · have := Lib.numDigits_eq u (by omega) hu
    split at this <;> omega
theorem refformat_one (u : Nat) (h : u < 10) (w : World) :
    Calls Tryd.prog 35 #[.int .u64 u] w fun e w' => e = .returned (.string ⟨(Lib.decDigits u).toArray⟩) ∧ w = w' := by
  rw [Lib.decDigits_one h]
  have hu : u = 0 ∨ u = 1 ∨ u = 2 ∨ u = 3 ∨ u = 4 ∨ u = 5 ∨ u = 6 ∨ u = 7 ∨ u = 8 ∨ u = 9 := by omega
  rcases hu with rfl | rfl | rfl | rfl | rfl | rfl | rfl | rfl | rfl | rfl
  all_goals
    go_enter Tryd.func35, Tryd.ntmps35
    go_wp2_with fail
    go_ret
    exact ⟨rfl, rfl⟩
theorem refformat_any (k : Nat) : ∀ (u : Nat) (w : World), u < 10 ^ k → u < 18446744073709551616 →
    Calls Tryd.prog 35 #[.int .u64 u] w fun e w' => e = .returned (.string ⟨(Lib.decDigits u).toArray⟩) ∧ w = w' := by
  induction k with
  | zero => intro u w h _; exact refformat_one u (by omega) w
  | succ k ih =>
    intro u w h hu
    by_cases h10 : u < 10
    · exact refformat_one u h10 w
    · have h1 : ∀ w, Calls Tryd.prog 35 #[.int .u64 ((u : Int) / 10)] w fun e w' => e = .returned (.string ⟨(Lib.decDigits (u / 10)).toArray⟩) ∧ w = w' := fun w => by
        have := ih (u / 10) w (by rw [Nat.pow_succ] at h; omega) (by omega)
        rwa [Int.natCast_ediv] at this
      have h2 : ∀ w, Calls Tryd.prog 35 #[.int .u64 ((u : Int) % 10)] w fun e w' => e = .returned (.string ⟨(Lib.decDigits (u % 10)).toArray⟩) ∧ w = w' := fun w => by
        have := refformat_one (u % 10) (by omega) w
        rwa [Int.natCast_emod] at this
      have e : Lib.decDigits u = Lib.decDigits (u / 10) ++ Lib.decDigits (u % 10) := by rw [dec_big h10, Lib.decDigits_one (show u % 10 < 10 by omega)]
      rw [e]
      have H1 := Lib.hid h1
      have H2 := Lib.hid h2
      have c2 := dec_short (u / 10) (by omega)
      have c3 := dec_short (u % 10) (by omega)
      have c0 : (10 : Int) ≤ (u : Int) := by omega
      have c1 : (u : Int) ≤ 18446744073709551615 := by omega
      clear h1 h2 e ih h hu h10
      generalize Lib.decDigits (u / 10) = l1 at *
      generalize Lib.decDigits (u % 10) = l2 at *
      have c4 : ¬ 9223372036854775807 < l1.length + l2.length := by omega
      clear c2 c3
      go_enter Tryd.func35, Tryd.ntmps35
      go_wp2_with fail
      refine (H1.out _).mono ?_
      rintro e w' ⟨rfl, rfl⟩
      go_wp2_with fail
      refine (H2.out _).mono ?_
      rintro e w' ⟨rfl, rfl⟩
      go_wp2_with fail
      go_ret
      exact ⟨by rw [← bytes_append]; rfl, rfl⟩

theorem gPow : Tryd.prog.globalNamed "internal/strconv.uint64pow10" = some 1 := by kernel_rfl
theorem tPow : (Tryd.prog.globals[1]?).map (·.type) = some 91 := by kernel_rfl
theorem dPow : (Rows.laid_internal_strconv_uint64pow10 : DataW Unit) = Lib.tabData .u64 Lib.pow10Tab := by kernel_rfl

/-- What the laws are told of the package variables. -/
structure Vars (w : World) : Prop where
  names : NamesAt w
  pow : PowTab w
theorem Vars.below {w w' : World} (h : Vars w) (hb : Below w.heap.size w w') : Vars w' := ⟨h.names.below hb, powTab_below h.pow hb⟩
theorem names_of_laid {W : World} (h : laidMetH Tryd.prog Rows.receiptSameRow.laid W) : NamesAt W := by
  rw [MakeChecks.laidMetH_plain _ _ _ (by kernel_rfl)] at h
  have hd : (Rows.laid_egress_op_names : DataW Unit) = .agg (nmL.map fun s => .lit (.string s.data.toList)) := by kernel_rfl
  have he : Rows.receiptSameRow.laid = ("egress/op.names", Rows.laid_egress_op_names) :: Rows.receiptSameRow.laid.tail := rfl
  rw [he, hd] at h
  exact (strsAt_of_head (g := 0) (by kernel_rfl) (by kernel_rfl) Tryd.underlying78 Tryd.underlying9 (by kernel_rfl) (by kernel_rfl) h).row (by kernel_rfl)
theorem vars_of_laid {W : World} (h : laidMetH Tryd.prog Rows.receiptSameRow.laid W) : Vars W := by
  refine ⟨names_of_laid h, ?_⟩
  rw [MakeChecks.laidMetH_plain _ _ _ (by kernel_rfl)] at h
  obtain ⟨ps, ⟨g2, t2, cs2, f2, p2, q2, hg2, ht2, hv2, hd2, _⟩, _⟩ := h.tail.tail.tail
  obtain rfl := Option.some.inj (gPow.symm.trans hg2)
  obtain rfl := Option.some.inj (tPow.symm.trans ht2)
  rw [dPow] at hd2
  unfold PowTab Lib.TabIs
  rw [hv2, ← Lib.cells_of_tab Tryd.underlying91 Tryd.underlying33 (by kernel_rfl) (by kernel_rfl) hd2]

/-- strconv.Itoa. -/
theorem itoa_any (n : Int) (h : -9223372036854775808 ≤ n ∧ n ≤ 9223372036854775807) (w : World) (ht : PowTab w) :
    Calls Tryd.prog 29 #[.int .i64 n] w fun e w' => e = .returned (.string ⟨(Lib.itoa n).toArray⟩) ∧ Below w.heap.size w w' :=
  (Tryd.strconv_Itoa n h.1 h.2 w ht).mono fun e w' ⟨h1, k, os, h2⟩ => ⟨h1, by rw [h2]; exact Lib.below_grow _ _ (Nat.le_refl _) k os⟩
theorem itoa_short {n : Int} (h : -9223372036854775808 ≤ n ∧ n ≤ 9223372036854775807) : (Lib.itoa n).length ≤ 21 := by
  unfold Lib.itoa
  split
  · have := dec_short n.natAbs (by omega)
    simp only [List.length_cons]; omega
  · have := dec_short n.toNat (by omega)
    omega
theorem lt_pow20 {u : Nat} (h : u < 18446744073709551616) : u < 10 ^ 20 := by
  have : (10 : Nat) ^ 20 = 100000000000000000000 := by decide
  omega
end Go.Proofs.YtjbbcnepeffiaaaDoor
