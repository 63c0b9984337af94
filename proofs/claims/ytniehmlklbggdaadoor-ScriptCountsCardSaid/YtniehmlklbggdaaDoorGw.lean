/- gwei.Format and gwei.Parse, the reference's; what the listed package variables give to the walks (stage 1's texts). -/
import Derived.Test.YtniehmlklbggdaaDoorFormat
import Derived.Test.YtniehmlklbggdaaDoorLine
import Derived.Test.YtniehmlklbggdaaDoorShelf2
import Derived.LaidMore
import Derived.ProofKit
import Derived.OpenShut
import Derived.Stop.Joined
import Derived.Stop.LaidErr
import Derived.Lib.LaidTab
namespace Go.Proofs.YtniehmlklbggdaaDoor
open Go Go.ChangeShapes Go.WideShapes Go.ChangeAt Go.RowKit Go.OpenShut GwStr
set_option linter.unusedVariables false
set_option linter.unusedSimpArgs false
set_option maxRecDepth 100000

/-- What the walks ask of the table of powers of ten. -/
def PowTab (w : World) : Prop := Lib.TabIs Tryd.prog w "internal/strconv.uint64pow10" .u64 Lib.pow10Tab
theorem tab_below {P : Program} {w w' : World} {name : String} {k : IntKind} {zs : List Int} (h : Lib.TabIs P w name k zs) (hb : Below w.heap.size w w') : Lib.TabIs P w' name k zs := by
  unfold Lib.TabIs World.var? at *
  cases hg : P.globalNamed name with
  | none => simp [hg] at h
  | some g =>
    simp only [hg, Option.bind_some] at h ⊢
    have hlt : g < w.heap.size := by
      rcases Nat.lt_or_ge g w.heap.size with h' | h'
      · exact h'
      · rw [Array.getElem?_eq_none h'] at h; simp at h
    rw [hb.block g hlt]
    exact h
theorem powTab_below {w w' : World} (h : PowTab w) (hb : Below w.heap.size w w') : PowTab w' := tab_below h hb

theorem gformat_any (u : Nat) (hu : u < 18446744073709551616) (w : World) (ht : PowTab w) :
    Calls Tryd.prog 34 #[.int .u64 u] w fun e w' => e = .returned (.string ⟨(Lib.decDigits u).toArray⟩) ∧ Below w.heap.size w w' := by
  have h : ∀ w, PowTab w → Calls Tryd.prog 74 #[.int .u64 u, .int .i64 10] w fun e w' => e = .returned (.string ⟨(Lib.decDigits u).toArray⟩) ∧ Below w.heap.size w w' := fun w ht =>
    (formatUint_any u hu w ht).mono fun e w' ⟨h1, k, os, h2⟩ => ⟨h1, by rw [h2]; exact Lib.below_grow _ _ (Nat.le_refl _) k os⟩
  have H := Lib.hid h
  have HT := Lib.hid ht
  clear h ht
  generalize (Lib.decDigits u).toArray = s at *
  go_enter Tryd.func34, Tryd.ntmps34
  go_wp2_with (first | (go_at_call 74; refine (H.out _ HT.out).mono ?_; rintro e w' ⟨rfl, hb⟩) | go_in)
  go_ret
  exact ⟨rfl, hb⟩

theorem refmax_any (w : World) : Calls Tryd.prog 62 #[] w fun e w' => e = .returned (.int .u64 18446744073709551615) ∧ w = w' := by
  go_enter Tryd.func62, Tryd.ntmps62
  go_wp2
  go_ret
  exact ⟨rfl, rfl⟩

theorem bytes_append (a b : List UInt8) : ((⟨a.toArray⟩ : ByteArray) ++ (⟨b.toArray⟩ : ByteArray)) = ⟨(a ++ b).toArray⟩ := by
  apply ByteArray.ext
  simp [ByteArray.data_append]
theorem dec_short (u : Nat) (hu : u < 18446744073709551616) : (Lib.decDigits u).length ≤ 20 := by
  rw [Lib.decDigits_length]
  by_cases h : u < 10
  · rw [Lib.nDigits_small h]; decide
  · have := Lib.numDigits_eq u (by omega) hu
    split at this <;> omega
theorem refformat_one (u : Nat) (h : u < 10) (w : World) :
    Calls Tryd.prog 41 #[.int .u64 u] w fun e w' => e = .returned (.string ⟨(Lib.decDigits u).toArray⟩) ∧ w = w' := by
  rw [Lib.decDigits_one h]
  have hu : u = 0 ∨ u = 1 ∨ u = 2 ∨ u = 3 ∨ u = 4 ∨ u = 5 ∨ u = 6 ∨ u = 7 ∨ u = 8 ∨ u = 9 := by omega
  rcases hu with rfl | rfl | rfl | rfl | rfl | rfl | rfl | rfl | rfl | rfl
  all_goals
    go_enter Tryd.func41, Tryd.ntmps41
    go_wp2_with fail
    go_ret
    exact ⟨rfl, rfl⟩
theorem refformat_any (k : Nat) : ∀ (u : Nat) (w : World), u < 10 ^ k → u < 18446744073709551616 →
    Calls Tryd.prog 41 #[.int .u64 u] w fun e w' => e = .returned (.string ⟨(Lib.decDigits u).toArray⟩) ∧ w = w' := by
  induction k with
  | zero => intro u w h _; exact refformat_one u (by omega) w
  | succ k ih =>
    intro u w h hu
    by_cases h10 : u < 10
    · exact refformat_one u h10 w
    · have h1 : ∀ w, Calls Tryd.prog 41 #[.int .u64 ((u : Int) / 10)] w fun e w' => e = .returned (.string ⟨(Lib.decDigits (u / 10)).toArray⟩) ∧ w = w' := fun w => by
        have := ih (u / 10) w (by rw [Nat.pow_succ] at h; omega) (by omega)
        rwa [Int.natCast_ediv] at this
      have h2 : ∀ w, Calls Tryd.prog 41 #[.int .u64 ((u : Int) % 10)] w fun e w' => e = .returned (.string ⟨(Lib.decDigits (u % 10)).toArray⟩) ∧ w = w' := fun w => by
        have := refformat_one (u % 10) (by omega) w
        rwa [Int.natCast_emod] at this
      have e : Lib.decDigits u = Lib.decDigits (u / 10) ++ Lib.decDigits (u % 10) := by rw [dec_big h10, Lib.decDigits_one (show u % 10 < 10 by omega)]
      rw [e]
      have H1 := Lib.hid h1
      have H2 := Lib.hid h2
      have c2 := dec_short (u / 10) (by omega)
      have c3 := dec_short (u % 10) (by omega)
      have c0 : (10 : Int) ≤ (u : Int) := by omega
      have c1 : (u : Int) ≤ 18446744073709551615 := by omega
      clear h1 h2 e ih h hu h10
      generalize Lib.decDigits (u / 10) = l1 at *
      generalize Lib.decDigits (u % 10) = l2 at *
      have c4 : ¬ 9223372036854775807 < l1.length + l2.length := by omega
      clear c2 c3
      go_enter Tryd.func41, Tryd.ntmps41
      go_wp2_with fail
      refine (H1.out _).mono ?_
      rintro e w' ⟨rfl, rfl⟩
      go_wp2_with fail
      refine (H2.out _).mono ?_
      rintro e w' ⟨rfl, rfl⟩
      go_wp2_with fail
      go_ret
      exact ⟨by rw [← bytes_append]; rfl, rfl⟩

theorem toList_nil {s : ByteArray} (h : s.size = 0) : s.data.toList = [] := by
  apply List.eq_nil_of_length_eq_zero; simpa using h
theorem toList_head {s : ByteArray} (h : 0 < s.size) : s.data.toList.headD 0 = s[0] := by
  rw [List.headD_eq_head?_getD, List.head?_eq_getElem?, List.getElem?_eq_getElem (by simpa using h)]; rfl
theorem drop_cons (s : ByteArray) (k : Nat) (h : k < s.size) : s.data.toList.drop k = s[k] :: s.data.toList.drop (k + 1) := by
  rw [List.drop_eq_getElem_cons (by simpa using h)]; rfl
theorem rp_bad {c : UInt8} {r : List UInt8} {n : Nat} (h : ¬ (48 ≤ c.toNat ∧ c.toNat ≤ 57)) : rp n (c :: r) = none := by simp only [rp]; rw [if_neg h]
theorem rp_over {c : UInt8} {r : List UInt8} {n : Nat} (h : 48 ≤ c.toNat ∧ c.toNat ≤ 57) (h2 : (18446744073709551615 - (c.toNat - 48)) / 10 < n) : rp n (c :: r) = none := by simp only [rp]; rw [if_pos h, if_pos h2]
theorem rp_go {c : UInt8} {r : List UInt8} {n : Nat} (h : 48 ≤ c.toNat ∧ c.toNat ≤ 57) (h2 : ¬ (18446744073709551615 - (c.toNat - 48)) / 10 < n) : rp n (c :: r) = rp (10 * n + (c.toNat - 48)) r := by simp only [rp]; rw [if_pos h, if_neg h2]
set_option maxHeartbeats 1000000 in
theorem refparse_any (s : ByteArray) (w : World) (hs : s.size ≤ 100000) :
    Calls Tryd.prog 45 #[.string s] w fun e w' => e = .returned (.tuple #[.int .u64 (refN s.data.toList : Nat), .bool (refOk s.data.toList)]) ∧ w = w' := by
  by_cases h0 : s.size = 0
  · have HE := Lib.hid (ref_none (l := s.data.toList) (by unfold refP; rw [if_pos (.inl (toList_nil h0))]))
    have z : ((s.size : Int) == 0) = true := beq_iff_eq.2 (by omega)
    clear h0
    go_enter Tryd.func45, Tryd.ntmps45
    go_wp2
    go_ret2
    exact ⟨by rw [HE.out.1, HE.out.2]; rfl, rfl⟩
  · have hp : 0 < s.size := by omega
    have z : ((s.size : Int) == 0) = false := beq_eq_false_iff_ne.2 (by omega)
    by_cases h1 : 1 < s.size ∧ s[0] = 48
    · have HE := Lib.hid (ref_none (l := s.data.toList) (by unfold refP; rw [if_pos (.inr ⟨by simpa using h1.1, by rw [toList_head hp]; exact h1.2⟩)]))
      have g1 : (1 : Int) < s.size := by have := h1.1; omega
      have g2 : ((s[0].toNat : Int) == 48) = true := by rw [h1.2]; rfl
      clear h1 h0
      go_enter Tryd.func45, Tryd.ntmps45
      go_wp2
      go_ret2
      exact ⟨by rw [HE.out.1, HE.out.2]; rfl, rfl⟩
    · have hrp : refP s.data.toList = rp 0 s.data.toList := by
        unfold refP
        rw [if_neg]
        rintro (h | ⟨h2, h3⟩)
        · rw [List.eq_nil_iff_length_eq_zero] at h; simp at h; exact h0 (by rw [h]; rfl)
        · exact h1 ⟨by simpa using h2, by rw [← toList_head hp]; exact h3⟩
      have HP := Lib.hid hrp
      have hcase : ((s.size : Int) ≤ 1) ∨ ((1 : Int) < s.size ∧ ((s[0].toNat : Int) == 48) = false) := by
        by_cases g : s.size ≤ 1
        · exact .inl (by omega)
        · refine .inr ⟨by omega, beq_eq_false_iff_ne.2 fun e => ?_⟩
          exact h1 ⟨by omega, UInt8.toNat_inj.1 (by have e2 : (48 : UInt8).toNat = 48 := rfl; omega)⟩
      clear hrp h1 h0
      rcases hcase with g1 | ⟨g1, g2⟩
      all_goals
        go_enter Tryd.func45, Tryd.ntmps45
        go_wp2
        try clear g2
        clear g1 z
        go_loop [4, 5, 6] (fun s4 s5 _ => ∃ k n : Nat, k ≤ s.size ∧ s5 = .int .i64 k ∧ s4 = .int .u64 n ∧ Hid (rp 0 s.data.toList = rp n (s.data.toList.drop k) ∧ n < 18446744073709551616)) (fun _ s5 _ => s.size - (intOf s5).toNat)
        case atStart => exact ⟨0, 0, by omega, rfl, rfl, Lib.hid ⟨rfl, by omega⟩⟩
        case round =>
          obtain ⟨k, n, hk, rfl, rfl, HI⟩ := hrel
          have n1 : (n : Int) ≤ 18446744073709551615 := by have := HI.out.2; omega
          by_cases hlt : k < s.size
          · have HDC := Lib.hid (drop_cons s k hlt)
            by_cases hd : 48 ≤ s[k].toNat ∧ s[k].toNat ≤ 57
            · have hc : (48 : Int) ≤ (s[k].toNat : Int) := by omega
              have hc2 : (s[k].toNat : Int) ≤ 57 := by omega
              by_cases hov : (18446744073709551615 - ((s[k].toNat : Int) - 48)) / 10 < (n : Int)
              · have HE := Lib.hid (ref_none (l := s.data.toList) (by rw [HP.out, HI.out.1, HDC.out]; exact rp_over hd (by omega)))
                clear hd
                go_wp2_with (go_at_call 62; refine (refmax_any _).mono ?_; rintro e w' ⟨rfl, rfl⟩)
                go_ret2
                exact ⟨by rw [HE.out.1, HE.out.2]; rfl, rfl⟩
              · have HN : Hid (rp 0 s.data.toList = rp (10 * n + (s[k].toNat - 48)) (s.data.toList.drop (k + 1)) ∧ 10 * n + (s[k].toNat - 48) < 18446744073709551616) :=
                  Lib.hid ⟨by rw [HI.out.1, HDC.out]; exact rp_go hd (by omega), by omega⟩
                clear hd
                go_wp2_with (go_at_call 62; refine (refmax_any _).mono ?_; rintro e w' ⟨rfl, rfl⟩)
                go_round
                case rel => exact ⟨k + 1, 10 * n + (s[k].toNat - 48), by omega, by go_num, by go_num, HN⟩
                case measure => simp [intOf]; omega
            · have HE := Lib.hid (ref_none (l := s.data.toList) (by rw [HP.out, HI.out.1, HDC.out]; exact rp_bad hd))
              have hc : ((s[k].toNat : Int) < 48) ∨ (¬ ((s[k].toNat : Int) < 48) ∧ (57 : Int) < (s[k].toNat : Int)) := by omega
              clear hd
              rcases hc with hc | ⟨hc, hc2⟩
              all_goals
                go_wp2
                go_ret2
                exact ⟨by rw [HE.out.1, HE.out.2]; rfl, rfl⟩
          · obtain rfl : k = s.size := by omega
            have HE := Lib.hid (ref_some (l := s.data.toList) (n := n) (by rw [HP.out, HI.out.1, List.drop_of_length_le (by simp)]; rfl))
            clear hlt
            have hlt : ¬ s.size < s.size := by omega
            go_wp2
            go_ret2
            exact ⟨by rw [HE.out.1, HE.out.2]; rfl, rfl⟩
theorem gPow : Tryd.prog.globalNamed "internal/strconv.uint64pow10" = some 2 := by kernel_rfl
theorem tPow : (Tryd.prog.globals[2]?).map (·.type) = some 124 := by kernel_rfl
theorem dPow : (Rows.laid_internal_strconv_uint64pow10 : DataW Unit) = Lib.tabData .u64 Lib.pow10Tab := by kernel_rfl

theorem gSyn : Tryd.prog.globalNamed "strconv.ErrSyntax" = some 3 := by kernel_rfl
theorem tSyn : (Tryd.prog.globals[3]?).map (·.type) = some 93 := by kernel_rfl
theorem gRan : Tryd.prog.globalNamed "strconv.ErrRange" = some 4 := by kernel_rfl
theorem tRan : (Tryd.prog.globals[4]?).map (·.type) = some 93 := by kernel_rfl
theorem cells80 : Tryd.prog.cellsOf 140 = 1 := by kernel_rfl
theorem cells9 : Tryd.prog.cellsOf 9 = 1 := by kernel_rfl
theorem starErr : "*" ++ "errors.errorString" = "*errors.errorString" := by decide
theorem rowErr (u : TypeId) (h : Tryd.prog.typeName? 3 u = some "*errors.errorString") : u = 138 :=
  typeName_ptr_named (nm := "errors.errorString") (by rw [starErr]; kernel_rfl) (by kernel_rfl) (by decide) u (by rw [starErr]; exact h)
/-- The two sentinels hold interface values. -/
def ErrVars (w : World) : Prop := (∃ te pe, w.cell? ⟨3, 0, none⟩ = some (.iface te pe)) ∧ (∃ te pe, w.cell? ⟨4, 0, none⟩ = some (.iface te pe))
theorem errVars_below {w w' : World} (h : ErrVars w) (hb : Below w.heap.size w w') : ErrVars w' := by
  obtain ⟨⟨t1, p1, h1⟩, ⟨t2, p2, h2⟩⟩ := h
  exact ⟨⟨t1, p1, by rw [hb.cell (block_lt_of_cell h1)]; exact h1⟩, ⟨t2, p2, by rw [hb.cell (block_lt_of_cell h2)]; exact h2⟩⟩
/-- What the laws are told of the package variables. -/
structure Vars (w : World) : Prop where
  names : NamesAt w
  pow : PowTab w
  errs : ErrVars w
theorem Vars.below {w w' : World} (h : Vars w) (hb : Below w.heap.size w w') : Vars w' := ⟨h.names.below hb, powTab_below h.pow hb, errVars_below h.errs hb⟩
theorem names_of_laid {W : World} (h : laidMetH Tryd.prog Rows.scriptDecodesRow.laid W) : NamesAt W := by
  rw [MakeChecks.laidMetH_plain _ _ _ (by kernel_rfl)] at h
  have hd : (Rows.laid_egress_op_names : DataW Unit) = .agg (nmL.map fun s => .lit (.string s.data.toList)) := by kernel_rfl
  have he : Rows.scriptDecodesRow.laid = ("egress/op.names", Rows.laid_egress_op_names) :: Rows.scriptDecodesRow.laid.tail := rfl
  rw [he, hd] at h
  exact (strsAt_of_head (g := 0) (by kernel_rfl) (by kernel_rfl) Tryd.underlying90 Tryd.underlying9 (by kernel_rfl) (by kernel_rfl) h).row (by kernel_rfl)
theorem vars_of_laid {W : World} (h : laidMetH Tryd.prog Rows.scriptDecodesRow.laid W) : Vars W := by
  refine ⟨names_of_laid h, ?_, ?_⟩
  all_goals rw [MakeChecks.laidMetH_plain _ _ _ (by kernel_rfl)] at h
  · obtain ⟨ps, ⟨g2, t2, cs2, f2, p2, q2, hg2, ht2, hv2, hd2, _⟩, _⟩ := h.tail.tail.tail
    obtain rfl := Option.some.inj (gPow.symm.trans hg2)
    obtain rfl := Option.some.inj (tPow.symm.trans ht2)
    rw [dPow] at hd2
    unfold PowTab Lib.TabIs
    rw [hv2, ← Lib.cells_of_tab Tryd.underlying124 Tryd.underlying33 (by kernel_rfl) (by kernel_rfl) hd2]
  · have h3 := h.tail.tail.tail.tail.tail
    obtain ⟨a0, s0, hv0, _⟩ := laid_sentinel h3 gRan tRan Tryd.underlying93 rowErr Tryd.underlying138 Tryd.underlying140 rfl rfl Tryd.underlying9 cells80 cells9
    obtain ⟨a1, s1, hv1, _⟩ := laid_sentinel h3.tail gSyn tSyn Tryd.underlying93 rowErr Tryd.underlying138 Tryd.underlying140 rfl rfl Tryd.underlying9 cells80 cells9
    exact ⟨⟨138, _, by simpa using World.var?_cell gSyn hv1 0⟩, ⟨138, _, by simpa using World.var?_cell gRan hv0 0⟩⟩
theorem pu_of_ref {l : List UInt8} {n : Nat} (h : refP l = some n) : Lib.parseUintB 64 l = .ok n := by
  have := refP_reads h
  rw [← this.1]; exact pu_dec n this.2
theorem toList_is (s : ByteArray) : s.toList = s.data.toList := ByteArray.toList_eq s
theorem bytes_eq (s : ByteArray) (l : List UInt8) : (⟨l.toArray⟩ : ByteArray) = s ↔ l = s.data.toList := by
  constructor
  · rintro rfl; simp
  · rintro rfl; rfl

/-- What strconv.ParseUint gives gwei.Parse. -/
theorem parseUint_any (s : ByteArray) (w : World) (hs : s.size ≤ 281474976710656) (he : ErrVars w) :
    (∃ u, Lib.parseUintB 64 s.data.toList = .ok u ∧ u < 18446744073709551616 ∧ Calls Tryd.prog 61 #[.string s, .int .i64 10, .int .i64 64] w fun e w' => e = .returned (.tuple #[.int .u64 u, .nilIface]) ∧ Below w.heap.size w w') ∨
    (refP s.data.toList = none ∧ ∃ n, Calls Tryd.prog 61 #[.string s, .int .i64 10, .int .i64 64] w fun e w' => ∃ N, e = .returned (.tuple #[.int .u64 n, .iface 119 (.pointer (some ⟨N, 0, none⟩))]) ∧ Below w.heap.size w w') := by
  obtain ⟨⟨t1, p1, h1⟩, ⟨t2, p2, h2⟩⟩ := he
  rcases hh : Lib.parseUintB 64 s.data.toList with u | _ | _
  · refine .inl ⟨u, rfl, by have := Lib.parseUintB_le hh; omega, ?_⟩
    exact (Tryd.strconv_ParseUint_10_at64_ok s (by omega) u hh w).mono fun e w' ⟨a, b⟩ => ⟨a, by
      rcases b with rfl | rfl
      · exact Below.refl _ _
      · exact Lib.bytesWorld_below _ _ _⟩
  · refine .inr ⟨?_, 0, ?_⟩
    · cases hr : refP s.data.toList with
      | none => rfl
      | some n => rw [pu_of_ref hr] at hh; cases hh
    · exact (Tryd.strconv_ParseUint_10_at64_bad s hs hh _ w h1 (.inr ⟨_, _, rfl⟩)).mono fun e w' ⟨N, a, _, _, b⟩ => ⟨N, a, b⟩
  · refine .inr ⟨?_, 18446744073709551615, ?_⟩
    · cases hr : refP s.data.toList with
      | none => rfl
      | some n => rw [pu_of_ref hr] at hh; cases hh
    · exact (Tryd.strconv_ParseUint_10_at64_range s hs hh _ w h2 (.inr ⟨_, _, rfl⟩)).mono fun e w' ⟨N, a, _, _, b⟩ => ⟨N, a, b⟩

theorem gparse_any (s : ByteArray) (w : World) (hs : s.size ≤ 100000) (ht : PowTab w) (he : ErrVars w) :
    Calls Tryd.prog 37 #[.string s] w fun e w' => e = .returned (.tuple #[.int .u64 (refN s.data.toList : Nat), .bool (refOk s.data.toList)]) ∧ Below w.heap.size w w' := by
  rcases parseUint_any s w (by omega) he with ⟨u, hu, hu64, hc⟩ | ⟨hr, n, hc⟩
  · have hf := fun w h => gformat_any u hu64 w h
    by_cases hq : Lib.decDigits u = s.data.toList
    · have HE := Lib.hid (ref_some (l := s.data.toList) (n := u) (by rw [← hq]; exact refP_dec u hu64))
      have e1 : (⟨(Lib.decDigits u).toArray⟩ : ByteArray) = s := (bytes_eq _ _).2 hq
      rw [e1] at hf
      have HC := Lib.hid hc
      have HF := Lib.hid hf
      have HT := Lib.hid ht
      clear hc hf ht hq e1 hu hu64
      go_enter Tryd.func37, Tryd.ntmps37
      go_wp2_with fail
      refine HC.out.mono ?_
      rintro e w1 ⟨rfl, hb1⟩
      go_wp2_with fail
      refine (HF.out _ (powTab_below HT.out hb1)).mono ?_
      rintro e w2 ⟨rfl, hb2⟩
      go_wp2_with fail
      go_ret2
      exact ⟨by rw [HE.out.1, HE.out.2]; rfl, hb1.trans (hb2.mono hb1.size)⟩
    · have hr : refP s.data.toList = none := by
        cases hr : refP s.data.toList with
        | none => rfl
        | some n => rw [pu_of_ref hr] at hu; injection hu with hu; subst hu; exact absurd (refP_reads hr).1 hq
      have HE := Lib.hid (ref_none hr)
      have HC := Lib.hid hc
      have HF := Lib.hid hf
      have HT := Lib.hid ht
      have hne : (Lib.decDigits u == s.toList) = false := by rw [toList_is]; simpa using hq
      clear hc hf ht hq hu hu64 hr
      go_enter Tryd.func37, Tryd.ntmps37
      go_wp2_with fail
      refine HC.out.mono ?_
      rintro e w1 ⟨rfl, hb1⟩
      go_wp2_with fail
      refine (HF.out _ (powTab_below HT.out hb1)).mono ?_
      rintro e w2 ⟨rfl, hb2⟩
      go_wp2_with fail
      go_ret2
      exact ⟨by rw [HE.out.1, HE.out.2]; rfl, hb1.trans (hb2.mono hb1.size)⟩
  · have HE := Lib.hid (ref_none hr)
    have HC := Lib.hid hc
    clear hc ht hr
    go_enter Tryd.func37, Tryd.ntmps37
    go_wp2_with fail
    refine HC.out.mono ?_
    rintro e w1 ⟨N, rfl, hb1⟩
    go_wp2_with fail
    go_ret2
    exact ⟨by rw [HE.out.1, HE.out.2]; rfl, hb1⟩

end Go.Proofs.YtniehmlklbggdaaDoor
