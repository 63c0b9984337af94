/- The example of the chapter. -/
import Derived.Test.YtcmlkcmoailhjaaDoS
namespace Go.Proofs.Ytcmlkcmoailhjaa
open Go Go.RowKit Go.Deep
set_option linter.unusedVariables false
set_option linter.unusedSimpArgs false

/-- What Len, Active, Total and Count read. -/
theorem reads {w : World} {b cap : Nat} {S : Nat → Prop} {l : List Val} (h : Reg w b S cap l) : ∃ m a cp, w.cell? ⟨b, 1, none⟩ = some (.slice a l.length cp) ∧ w.cell? ⟨b, 2, none⟩ = some (.map (some m)) ∧ w.cell? ⟨b, 3, none⟩ = some (.int .u64 (activeOf l)) ∧ w.cell? ⟨b, 4, none⟩ = some (.int .u64 (totalOf l)) ∧ CntAt w m (countOf l) := by
  obtain ⟨m, a, cp, _, x1, x2, x3, x4, _, _, hc, _⟩ := h.cells
  exact ⟨m, a, cp, x1, x2, x3, x4, hc⟩
theorem rlen {w : World} {b cap : Nat} {S : Nat → Prop} {l : List Val} (h : Reg w b S cap l) : Calls Try.prog 12 #[.pointer (some ⟨b, 0, none⟩)] w fun e w' => e = .returned (.int .i64 l.length) ∧ w = w' := by
  obtain ⟨m, a, cp, x1, _⟩ := reads h
  exact len_any b l.length cp a w x1
theorem ractive {w : World} {b cap : Nat} {S : Nat → Prop} {l : List Val} (h : Reg w b S cap l) : Calls Try.prog 13 #[.pointer (some ⟨b, 0, none⟩)] w fun e w' => e = .returned (.int .u64 (activeOf l)) ∧ w = w' := by
  obtain ⟨m, a, cp, x1, x2, x3, _⟩ := reads h
  exact active_any b _ w x3
theorem rtotal {w : World} {b cap : Nat} {S : Nat → Prop} {l : List Val} (h : Reg w b S cap l) : Calls Try.prog 15 #[.pointer (some ⟨b, 0, none⟩)] w fun e w' => e = .returned (.int .u64 (totalOf l)) ∧ w = w' := by
  obtain ⟨m, a, cp, x1, x2, x3, x4, _⟩ := reads h
  exact total_any b _ w x4
theorem rcount {w : World} {b cap : Nat} {S : Nat → Prop} {l : List Val} (h : Reg w b S cap l) (s : Int) (hs : (Lit.int .i64 s).wf = true) : Calls Try.prog 19 #[.pointer (some ⟨b, 0, none⟩), .int .i64 s] w fun e w' => e = .returned (.int .i64 (countOf l s)) ∧ w = w' := by
  obtain ⟨m, a, cp, x1, x2, x3, x4, hc⟩ := reads h
  exact count_any b m _ s w x2 hc hs

def v5 : Val := ⟨5, 2, false, 0, 0, 0, 0⟩
def v7 : Val := ⟨7, 1, false, 0, 0, 0, 0⟩
theorem f5 : FitsV v5 := ⟨by decide, by decide⟩
theorem f7 : FitsV v7 := ⟨by decide, by decide⟩
theorem f0 : FitsV val0 := ⟨by decide, by decide⟩
set_option maxHeartbeats 800000 in
theorem alive_any (w : World) : Calls Try.prog 10 #[] w fun e w' => e = .returned (.bool true) ∧ Below w.heap.size w w' := by
  have H5 := Lib.hid (fun (b : Nat) (S : Nat → Prop) (w : World) (h : Reg w b S 2 []) => addv_yes b 2 S [] v5 w h f5 (by decide) (by decide))
  have H7 := Lib.hid (fun (b : Nat) (S : Nat → Prop) (w : World) (h : Reg w b S 2 [v5]) => addv_yes b 2 S [v5] v7 w h f7 (by decide) (by decide))
  have H0 := Lib.hid (fun (b : Nat) (S : Nat → Prop) (w : World) (h : Reg w b S 2 [v5, v7]) => addv_full' b 2 S [v5, v7] val0 w h f0 (by decide))
  have HA : Hid (∀ (b : Nat) (S : Nat → Prop) (w : World) (h : Reg w b S 2 [v5, v7]), Calls Try.prog 13 #[.pointer (some ⟨b, 0, none⟩)] w fun e w' => e = .returned (.int .u64 5) ∧ w = w') := Lib.hid (fun b S w h => ractive h)
  have HT : Hid (∀ (b : Nat) (S : Nat → Prop) (w : World) (h : Reg w b S 2 [v5, v7]), Calls Try.prog 15 #[.pointer (some ⟨b, 0, none⟩)] w fun e w' => e = .returned (.int .u64 12) ∧ w = w') := Lib.hid (fun b S w h => rtotal h)
  have HC : Hid (∀ (b : Nat) (S : Nat → Prop) (w : World) (h : Reg w b S 2 [v5, v7]), Calls Try.prog 19 #[.pointer (some ⟨b, 0, none⟩), .int .i64 1] w fun e w' => e = .returned (.int .i64 1) ∧ w = w') := Lib.hid (fun b S w h => rcount h 1 (by decide))
  have HN : Hid (∀ (b : Nat) (S : Nat → Prop) (w : World) (h : Reg w b S 2 [v5, v7]), Calls Try.prog 12 #[.pointer (some ⟨b, 0, none⟩)] w fun e w' => e = .returned (.int .i64 2) ∧ w = w') := Lib.hid (fun b S w h => rlen h)
  have HB : Hid (∀ w, Calls Try.prog 9 #[.int .i64 2] w fun e w' => ∃ b S, e = .returned (.pointer (some ⟨b, 0, none⟩)) ∧ Reg w' b S 2 [] ∧ (∀ i, S i → w.heap.size ≤ i) ∧ Below w.heap.size w w') := Lib.hid (fun w => new_any 2 w (by decide) (by decide))
  go_enter Try.func10, Try.ntmps10
  go_wp2_with fail
  refine (HB.out _).mono ?_
  rintro e w1 ⟨b, S, rfl, hr, hS, hb⟩
  have R1 := Lib.hid hr
  have S1 := Lib.hid hS
  have B1 := Lib.hid hb
  clear hr hS hb
  go_wp2_with (refine wpList_build_val rfl 29 _ rfl v5 (by kernel_rfl) ?_)
  refine (H5.out b S w1 R1.out).mono ?_
  rintro e w2 ⟨rfl, S2, hr, hm, hk⟩
  have R2 := Lib.hid hr
  have T2 : Hid (∀ i, S2 i → w.heap.size ≤ i) := Lib.hid (fun i hi => (hm i hi).elim (S1.out i) (fun h => Nat.le_trans B1.out.size h))
  have B2 := Lib.hid (Kept.below B1.out hk S1.out B1.out.size)
  clear hr hm hk R1 S1 B1
  go_wp2_with (refine wpList_build_val rfl 29 _ rfl v7 (by kernel_rfl) ?_)
  refine (H7.out b S2 w2 R2.out).mono ?_
  rintro e w3 ⟨rfl, S3, hr, hm, hk⟩
  have R3 : Hid (Reg w3 b S3 2 [v5, v7]) := Lib.hid hr
  have B3 := Lib.hid (Kept.below B2.out hk T2.out B2.out.size)
  clear hr hm hk R2 T2 B2
  go_wp2_with (refine wpList_build_val rfl 29 _ rfl val0 (by kernel_rfl) ?_)
  refine (H0.out b S3 w3 R3.out).mono ?_
  rintro e w4 ⟨rfl, hb⟩
  have R4 := Lib.hid (R3.out.below hb)
  have B4 := Lib.hid (B3.out.trans (hb.mono B3.out.size))
  clear hb R3 B3
  go_wp2_with fail
  refine (HA.out b S3 w4 R4.out).mono ?_
  rintro e w5 ⟨rfl, rfl⟩
  go_wp2_with fail
  refine (HT.out b S3 w4 R4.out).mono ?_
  rintro e w5 ⟨rfl, rfl⟩
  go_wp2_with fail
  refine (HC.out b S3 w4 R4.out).mono ?_
  rintro e w5 ⟨rfl, rfl⟩
  go_wp2_with fail
  refine (HN.out b S3 w4 R4.out).mono ?_
  rintro e w5 ⟨rfl, rfl⟩
  go_wp2_with fail
  go_ret
  exact ⟨rfl, B4.out⟩
end Go.Proofs.Ytcmlkcmoailhjaa
