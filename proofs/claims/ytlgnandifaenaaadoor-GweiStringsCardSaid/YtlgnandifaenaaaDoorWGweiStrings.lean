/- The walk of GweiStrings. -/
import Derived.Test.YtlgnandifaenaaaDoorParse
import Derived.Test.YtlgnandifaenaaaDoorLaid
import Derived.Stop.LaidErr
namespace Go.Proofs.YtlgnandifaenaaaDoor
open Go.RowKit Go.OpenShut GwStr
set_option linter.unusedVariables false

theorem gSyn : Tryd.prog.globalNamed "strconv.ErrSyntax" = some 2 := by kernel_rfl
theorem tSyn : (Tryd.prog.globals[2]?).map (·.type) = some 46 := by kernel_rfl
theorem gRan : Tryd.prog.globalNamed "strconv.ErrRange" = some 3 := by kernel_rfl
theorem tRan : (Tryd.prog.globals[3]?).map (·.type) = some 46 := by kernel_rfl
theorem cells80 : Tryd.prog.cellsOf 80 = 1 := by kernel_rfl
theorem cells9 : Tryd.prog.cellsOf 9 = 1 := by kernel_rfl
theorem starErr : "*" ++ "errors.errorString" = "*errors.errorString" := by decide
theorem rowErr (u : TypeId) (h : Tryd.prog.typeName? 3 u = some "*errors.errorString") : u = 78 :=
  typeName_ptr_named (nm := "errors.errorString") (by rw [starErr]; kernel_rfl) (by kernel_rfl) (by decide) u (by rw [starErr]; exact h)
/-- The two sentinels hold interface values. -/
def ErrVars (w : World) : Prop := (∃ te pe, w.cell? ⟨2, 0, none⟩ = some (.iface te pe)) ∧ (∃ te pe, w.cell? ⟨3, 0, none⟩ = some (.iface te pe))
theorem errVars_below {w w' : World} (h : ErrVars w) (hb : Below w.heap.size w w') : ErrVars w' := by
  obtain ⟨⟨t1, p1, h1⟩, ⟨t2, p2, h2⟩⟩ := h
  exact ⟨⟨t1, p1, by rw [hb.cell (block_lt_of_cell h1)]; exact h1⟩, ⟨t2, p2, by rw [hb.cell (block_lt_of_cell h2)]; exact h2⟩⟩
theorem of_laid5 {W : World} (h : laidMetH Tryd.prog Rows.gweiStringsRow.laid W) : PowTab W ∧ ErrVars W := by
  rw [MakeChecks.laidMetH_plain _ _ _ (by kernel_rfl)] at h
  have h3 := h.tail.tail.tail
  obtain ⟨a0, s0, hv0, _⟩ := laid_sentinel h3 gRan tRan Tryd.underlying46 rowErr Tryd.underlying78 Tryd.underlying80 rfl rfl Tryd.underlying9 cells80 cells9
  obtain ⟨a1, s1, hv1, _⟩ := laid_sentinel h3.tail gSyn tSyn Tryd.underlying46 rowErr Tryd.underlying78 Tryd.underlying80 rfl rfl Tryd.underlying9 cells80 cells9
  refine ⟨?_, ⟨78, _, by simpa using World.var?_cell gSyn hv1 0⟩, ⟨78, _, by simpa using World.var?_cell gRan hv0 0⟩⟩
  obtain ⟨ps, ⟨g2, t2, cs2, f2, p2, q2, hg2, ht2, hv2, hd2, _⟩, _⟩ := h.tail.tail
  obtain rfl := Option.some.inj (gPow.symm.trans hg2)
  obtain rfl := Option.some.inj (tPow.symm.trans ht2)
  rw [dPow] at hd2
  unfold PowTab Lib.TabIs
  rw [hv2, ← Lib.cells_of_tab Tryd.underlying72 Tryd.underlying24 (by kernel_rfl) (by kernel_rfl) hd2]

theorem pu_of_ref {l : List UInt8} {n : Nat} (h : refP l = some n) : Lib.parseUintB 64 l = .ok n := by
  have := refP_reads h
  rw [← this.1]; exact pu_dec n this.2
theorem toList_is (s : ByteArray) : s.toList = s.data.toList := ByteArray.toList_eq s
theorem bytes_eq (s : ByteArray) (l : List UInt8) : (⟨l.toArray⟩ : ByteArray) = s ↔ l = s.data.toList := by
  constructor
  · rintro rfl; simp
  · rintro rfl; rfl

/-- What strconv.ParseUint gives gwei.Parse. -/
theorem parseUint_any (s : ByteArray) (w : World) (hs : s.size ≤ 281474976710656) (he : ErrVars w) :
    (∃ u, Lib.parseUintB 64 s.data.toList = .ok u ∧ u < 18446744073709551616 ∧ Calls Tryd.prog 27 #[.string s, .int .i64 10, .int .i64 64] w fun e w' => e = .returned (.tuple #[.int .u64 u, .nilIface]) ∧ Below w.heap.size w w') ∨
    (refP s.data.toList = none ∧ ∃ n, Calls Tryd.prog 27 #[.string s, .int .i64 10, .int .i64 64] w fun e w' => ∃ N, e = .returned (.tuple #[.int .u64 n, .iface 58 (.pointer (some ⟨N, 0, none⟩))]) ∧ Below w.heap.size w w') := by
  obtain ⟨⟨t1, p1, h1⟩, ⟨t2, p2, h2⟩⟩ := he
  rcases hh : Lib.parseUintB 64 s.data.toList with u | _ | _
  · refine .inl ⟨u, rfl, by have := Lib.parseUintB_le hh; omega, ?_⟩
    exact (Tryd.strconv_ParseUint_10_at64_ok s (by omega) u hh w).mono fun e w' ⟨a, b⟩ => ⟨a, by
      rcases b with rfl | rfl
      · exact Below.refl _ _
      · exact Lib.bytesWorld_below _ _ _⟩
  · refine .inr ⟨?_, 0, ?_⟩
    · cases hr : refP s.data.toList with
      | none => rfl
      | some n => rw [pu_of_ref hr] at hh; cases hh
    · exact (Tryd.strconv_ParseUint_10_at64_bad s hs hh _ w h1 (.inr ⟨_, _, rfl⟩)).mono fun e w' ⟨N, a, _, _, b⟩ => ⟨N, a, b⟩
  · refine .inr ⟨?_, 18446744073709551615, ?_⟩
    · cases hr : refP s.data.toList with
      | none => rfl
      | some n => rw [pu_of_ref hr] at hh; cases hh
    · exact (Tryd.strconv_ParseUint_10_at64_range s hs hh _ w h2 (.inr ⟨_, _, rfl⟩)).mono fun e w' ⟨N, a, _, _, b⟩ => ⟨N, a, b⟩

theorem parse_any (s : ByteArray) (w : World) (hs : s.size ≤ 100) (ht : PowTab w) (he : ErrVars w) :
    Calls Tryd.prog 19 #[.string s] w fun e w' => e = .returned (.tuple #[.int .u64 (refN s.data.toList : Nat), .bool (refOk s.data.toList)]) ∧ Below w.heap.size w w' := by
  rcases parseUint_any s w (by omega) he with ⟨u, hu, hu64, hc⟩ | ⟨hr, n, hc⟩
  · have hf := fun w h => format_any u hu64 w h
    by_cases hq : Lib.decDigits u = s.data.toList
    · have HE := Lib.hid (ref_some (l := s.data.toList) (n := u) (by rw [← hq]; exact refP_dec u hu64))
      have e1 : (⟨(Lib.decDigits u).toArray⟩ : ByteArray) = s := (bytes_eq _ _).2 hq
      rw [e1] at hf
      have HC := Lib.hid hc
      have HF := Lib.hid hf
      have HT := Lib.hid ht
      clear hc hf ht hq e1 hu hu64
      go_enter Tryd.func19, Tryd.ntmps19
      go_wp2_with fail
      refine HC.out.mono ?_
      rintro e w1 ⟨rfl, hb1⟩
      go_wp2_with fail
      refine (HF.out _ (powTab_below HT.out hb1)).mono ?_
      rintro e w2 ⟨rfl, hb2⟩
      go_wp2_with fail
      go_ret2
      exact ⟨by rw [HE.out.1, HE.out.2]; rfl, hb1.trans (hb2.mono hb1.size)⟩
    · have hr : refP s.data.toList = none := by
        cases hr : refP s.data.toList with
        | none => rfl
        | some n => rw [pu_of_ref hr] at hu; injection hu with hu; subst hu; exact absurd (refP_reads hr).1 hq
      have HE := Lib.hid (ref_none hr)
      have HC := Lib.hid hc
      have HF := Lib.hid hf
      have HT := Lib.hid ht
      have hne : (Lib.decDigits u == s.toList) = false := by rw [toList_is]; simpa using hq
      clear hc hf ht hq hu hu64 hr
      go_enter Tryd.func19, Tryd.ntmps19
      go_wp2_with fail
      refine HC.out.mono ?_
      rintro e w1 ⟨rfl, hb1⟩
      go_wp2_with fail
      refine (HF.out _ (powTab_below HT.out hb1)).mono ?_
      rintro e w2 ⟨rfl, hb2⟩
      go_wp2_with fail
      go_ret2
      exact ⟨by rw [HE.out.1, HE.out.2]; rfl, hb1.trans (hb2.mono hb1.size)⟩
  · have HE := Lib.hid (ref_none hr)
    have HC := Lib.hid hc
    clear hc ht hr
    go_enter Tryd.func19, Tryd.ntmps19
    go_wp2_with fail
    refine HC.out.mono ?_
    rintro e w1 ⟨N, rfl, hb1⟩
    go_wp2_with fail
    go_ret2
    exact ⟨by rw [HE.out.1, HE.out.2]; rfl, hb1⟩

theorem walk_GweiStrings (a0 : ByteArray) (a1 : Int) (w : World) (w0 : a0.size ≤ maxLen) (w1 : (Lit.int .u64 a1).wf = true) (hL : laidMetH Tryd.prog Rows.gweiStringsRow.laid w) :
    Calls Tryd.prog 8 #[.string a0, .int .u64 a1] w fun e w' => e = .returned (.bool true) ∧ Below w.heap.size w w' := by
  obtain ⟨ht, he⟩ := of_laid5 hL
  obtain ⟨b1, b1'⟩ := bounds_u64 w1
  clear hL w1
  obtain ⟨u, rfl⟩ := Int.eq_ofNat_of_zero_le b1
  have HT := Lib.hid ht
  have HE := Lib.hid he
  clear ht he b1
  by_cases hbig : (100 : Int) < a0.size
  · go_enter Tryd.func8, Tryd.ntmps8
    go_wp2_with fail
    refine (alive_any _ HT.out).mono ?_
    rintro e w3 ⟨rfl, hb3⟩
    go_wp2_with fail
    go_ret
    exact ⟨rfl, hb3⟩
  · have hs : a0.size ≤ 100 := by omega
    have hu : u < 18446744073709551616 := by omega
    have hp1 := fun w ht he => parse_any a0 w hs ht he
    have hp2 := fun w => refparse_any a0 w hs
    have hf := fun w ht => format_any u hu w ht
    have hd : refOk (Lib.decDigits u) = true ∧ refN (Lib.decDigits u) = u := ref_some (refP_dec u hu)
    have hlen := dec_short u hu
    have hp3 := fun w ht he => parse_any ⟨(Lib.decDigits u).toArray⟩ w (by
      show (Lib.decDigits u).toArray.size ≤ 100
      simp; omega) ht he
    have e3 : ((⟨(Lib.decDigits u).toArray⟩ : ByteArray).data.toList) = Lib.decDigits u := by simp
    rw [e3, hd.1, hd.2] at hp3
    have hr := fun w => refformat_any 20 u w (by have : (10 : Nat) ^ 20 = 100000000000000000000 := by decide
                                                 omega) hu
    have P1 := Lib.hid hp1
    have P2 := Lib.hid hp2
    have P3 := Lib.hid hp3
    have F1 := Lib.hid hf
    have F2 := Lib.hid hr
    clear hp1 hp2 hp3 hf hr hd e3 hlen hu b1'
    generalize refN a0.data.toList = q at *
    generalize refOk a0.data.toList = o at *
    generalize (Lib.decDigits u).toArray = t at *
    go_enter Tryd.func8, Tryd.ntmps8
    go_wp2_with fail
    refine (P1.out _ HT.out HE.out).mono ?_
    rintro e w1 ⟨rfl, hb1⟩
    go_wp2_with fail
    refine (P2.out _).mono ?_
    rintro e w' ⟨rfl, rfl⟩
    go_wp2_with fail
    refine (F1.out _ (powTab_below HT.out hb1)).mono ?_
    rintro e w2 ⟨rfl, hb2⟩
    have hb12 := hb1.trans (hb2.mono hb1.size)
    go_wp2_with fail
    refine (P3.out _ (powTab_below HT.out hb12) (errVars_below HE.out hb12)).mono ?_
    rintro e w3 ⟨rfl, hb3⟩
    have hb13 := hb12.trans (hb3.mono hb12.size)
    go_wp2_with fail
    refine (alive_any _ (powTab_below HT.out hb13)).mono ?_
    rintro e w4 ⟨rfl, hb4⟩
    have hb14 := hb13.trans (hb4.mono hb13.size)
    go_wp2_with fail
    refine (F1.out _ (powTab_below HT.out hb14)).mono ?_
    rintro e w5 ⟨rfl, hb5⟩
    have hb15 := hb14.trans (hb5.mono hb14.size)
    go_wp2_with fail
    refine (F2.out _).mono ?_
    rintro e w' ⟨rfl, rfl⟩
    go_wp2_with fail
    go_ret
    exact ⟨rfl, hb15⟩
end Go.Proofs.YtlgnandifaenaaaDoor
