/- The statement StatusPaid, walked: it returns true for all slices. -/
import Derived.Test.YtdkojcmffkhpkaaDoorRun
namespace Go.Proofs.YtdkojcmffkhpkaaDoor
open Go Go.RowKit Go.Maps
set_option linter.unusedVariables false
set_option linter.unusedSimpArgs false

/-- The statuses on the way. -/
theorem runS_steps : ∀ (zs : List Int) (s : Int), ∃ f : Nat → Int, f 0 = s ∧ f (runS s zs).2 = (runS s zs).1 ∧ (runS s zs).2 ≤ zs.length ∧ ∀ i, i < (runS s zs).2 → refN (f i) (zs.getD i 0) = f (i + 1) ∧ f (i + 1) ≠ 0
  | [], s => ⟨fun _ => s, rfl, rfl, Nat.le_refl _, fun i hi => by simp [runS] at hi⟩
  | e :: r, s => by
    by_cases h : refN s e = 0
    · refine ⟨fun _ => s, rfl, ?_, ?_, ?_⟩
      · rw [runS, if_pos h]
      · rw [runS, if_pos h]; exact Nat.zero_le _
      · intro i hi
        rw [runS, if_pos h] at hi
        exact absurd hi (Nat.not_lt_zero _)
    · obtain ⟨f, h0, h1, h2, h3⟩ := runS_steps r (refN s e)
      refine ⟨fun i => match i with | 0 => s | i + 1 => f i, rfl, ?_, ?_, ?_⟩
      · rw [runS, if_neg h]; exact h1
      · rw [runS, if_neg h]; exact Nat.succ_le_succ h2
      · intro i hi
        rw [runS, if_neg h] at hi
        rcases i with _ | i
        · exact ⟨h0.symm, by show f 0 ≠ 0; rw [h0]; exact h⟩
        · exact h3 i (by simpa using hi)
theorem refN_events {s e : Int} (h : refN s e ≠ 0) : (e = 1 ∧ s = 1 ∧ refN s e = 2) ∨ (e = 2 ∧ s = 2 ∧ refN s e = 3) ∨ (e = 3 ∧ s = 3 ∧ refN s e = 4) ∨ (e = 4 ∧ s = 4 ∧ refN s e = 5) ∨ (e = 5 ∧ s = 5 ∧ refN s e = 6) ∨ (e = 6 ∧ s = 2 ∧ refN s e = 7) ∨
    (e = 7 ∧ ((refN s e = 3 ∧ (s = 2 ∨ s = 3)) ∨ (refN s e = 4 ∧ (s = 4 ∨ s = 5)))) := by
  have hm := refN_mem h
  simp only [ents, List.mem_cons, Prod.mk.injEq, List.not_mem_nil, or_false] at hm
  generalize refN s e = q at *
  clear h
  rcases hm with ⟨rfl, rfl, rfl⟩ | ⟨rfl, rfl, rfl⟩ | ⟨rfl, rfl, rfl⟩ | ⟨rfl, rfl, rfl⟩ | ⟨rfl, rfl, rfl⟩ | ⟨rfl, rfl, rfl⟩ | ⟨rfl, rfl, rfl⟩ | ⟨rfl, rfl, rfl⟩ | ⟨rfl, rfl, rfl⟩ | ⟨rfl, rfl, rfl⟩
  all_goals simp

set_option maxHeartbeats 1000000 in
theorem walk_StatusPaid (a0 : Option Addr) (len0 cap0 : Nat) (z0 : List Int) (w : World) (w0 : IsRow .i64 w a0 len0 cap0 z0) (hL : laidMetH Tryd.prog Rows.statusPaidRow.laid w) :
    Calls Tryd.prog 7 #[.slice a0 len0 cap0] w fun e w' => e = .returned (.bool true) ∧ Below w.heap.size w w' := by
  have h := names_of_laid hL
  have hR := Rd.of_row w0
  obtain ⟨hcap, hl, hcm, hz⟩ := w0.len_le
  have H := Lib.hid h
  clear hL h w0
  by_cases hbig : (100 : Int) < len0
  · have HA := Lib.hid (alive_any w H.out)
    clear hR
    go_enter Tryd.func7, Tryd.ntmps7
    go_wp2_with fail
    refine HA.out.mono ?_
    rintro e w3 ⟨rfl, hb3⟩
    go_wp2_with fail
    go_ret
    exact ⟨rfl, hb3⟩
  · have h1 := run_any 1 a0 len0 cap0 z0 w (by decide) hR hl hz
    obtain ⟨f, f0, f1, f2, f3⟩ := runS_steps (z0.take len0) 1
    have hn : (runS 1 (z0.take len0)).2 ≤ len0 := Nat.le_trans f2 (by simp; omega)
    have f3' : ∀ i, i < (runS 1 (z0.take len0)).2 → refN (f i) (z0.getD i 0) = f (i + 1) ∧ f (i + 1) ≠ 0 := fun i hi => by
      have h := f3 i hi
      rwa [show (z0.take len0).getD i 0 = z0.getD i 0 by rw [List.getD_eq_getElem?_getD, List.getElem?_take_of_lt (by omega), ← List.getD_eq_getElem?_getD]] at h
    clear f3 f2
    generalize (runS 1 (z0.take len0)).1 = s at *
    generalize (runS 1 (z0.take len0)).2 = n at *
    have HR0 := Lib.hid hR
    have H1 := Lib.hid h1
    have HF := Lib.hid f3'
    have HF0 := Lib.hid f0
    have HFn := Lib.hid f1
    clear hR h1 f3' f0 f1
    have hn0 : (0 : Int) ≤ n := by omega
    by_cases hs : s = 6
    · subst hs
      have hpos : 0 < n := by
        rcases Nat.eq_zero_or_pos n with h | h
        · have := HFn.out
          rw [h, HF0.out] at this
          omega
        · exact h
      obtain ⟨b, off, rfl, hbs, hc⟩ := HR0.out (by omega)
      have HLAST : Hid (z0.getD (n - 1) 0 = 5) := Lib.hid (by
        obtain ⟨g1, g2⟩ := HF.out (n - 1) (by omega)
        rw [show n - 1 + 1 = n by omega, HFn.out] at g1
        rcases refN_events (s := f (n - 1)) (e := z0.getD (n - 1) 0) (by omega) with h | h | h | h | h | h | h <;> omega)
      have HC := Lib.hid hc
      clear hc
      go_enter Tryd.func7, Tryd.ntmps7
      go_wp2_with fail
      refine H1.out.mono ?_
      rintro e w1 ⟨rfl, hb1⟩
      have HB := Lib.hid hb1
      have HN := Lib.hid (alive_any w1 (H.out.below hb1))
      have HC1 : Hid (∀ i, i < len0 → w1.cell? ⟨b, off + i, none⟩ = some (.int .i64 (z0.getD i 0))) := Lib.hid fun i hi => (hb1.cell (p := ⟨b, off + i, none⟩) hbs).trans (HC.out i hi).1
      clear hb1 hbs
      go_wp2_with fail
      go_loop [5, 6, 33] (fun l r i => ∃ (k : Nat) (lb rb : Bool), k ≤ n ∧ i = .int .i64 k ∧ l = .bool lb ∧ r = .bool rb ∧ (f k = 4 ∨ f k = 5 ∨ f k = 6 → lb = true) ∧ (f k = 5 ∨ f k = 6 → rb = true)) (fun _ _ i => n - (intOf i).toNat)
      case atStart => exact ⟨0, false, false, by omega, rfl, rfl, rfl, by rw [HF0.out]; omega, by rw [HF0.out]; omega⟩
      case round =>
        obtain ⟨k, lb, rb, hk, rfl, rfl, rfl, hlb, hrb⟩ := hrel
        have HLB := Lib.hid hlb
        have HRB := Lib.hid hrb
        clear hlb hrb
        by_cases hlt : k < n
        · have hcell := HC1.out k (by omega)
          obtain ⟨g1, g2⟩ := HF.out k hlt
          have hev := refN_events (s := f k) (e := z0.getD k 0) (by omega)
          rw [g1] at hev
          have HK0 : Hid (k = 0 → f k = 1) := Lib.hid fun e => by subst e; exact HF0.out
          clear g1 g2
          generalize z0.getD k 0 = e at *
          have HLR : Hid (∀ l' r' : Bool, (e = 3 → l' = true) → (e ≠ 3 → l' = lb) → (e = 4 → r' = lb) → (e = 7 → r' = false) → (e ≠ 4 → e ≠ 7 → r' = rb) → (f (k + 1) = 4 ∨ f (k + 1) = 5 ∨ f (k + 1) = 6 → l' = true) ∧ (f (k + 1) = 5 ∨ f (k + 1) = 6 → r' = true)) := Lib.hid fun l' r' t1 t2 t3 t4 t5 => by
            have u1 := HLB.out
            have u2 := HRB.out
            rcases hev with h | h | h | h | h | h | h
            · exact ⟨fun _ => by omega, fun _ => by omega⟩
            · exact ⟨fun _ => by omega, fun _ => by omega⟩
            · exact ⟨fun _ => t1 h.1, fun _ => by omega⟩
            · exact ⟨fun _ => (t2 (by omega)).trans (u1 (by omega)), fun _ => (t3 h.1).trans (u1 (by omega))⟩
            · exact ⟨fun _ => (t2 (by omega)).trans (u1 (by omega)), fun _ => (t5 (by omega) (by omega)).trans (u2 (by omega))⟩
            · exact ⟨fun _ => by omega, fun _ => by omega⟩
            · exact ⟨fun _ => (t2 (by omega)).trans (u1 (by omega)), fun _ => by omega⟩
          have HEV : Hid (k = 0 → e = 1) := Lib.hid fun hk0 => by
            have := HK0.out hk0
            omega
          have HE7 : Hid (1 ≤ e ∧ e ≤ 7) := Lib.hid (by omega)
          clear hev
          by_cases hk0 : k = 0
          · obtain rfl := HEV.out hk0
            have hk1 : ((k : Int) == 0) = true := by simpa using hk0
            clear hk0
            go_wp2
            go_round
            case rel => exact ⟨k + 1, _, _, by omega, by go_num, rfl, rfl, HLR.out _ _ (by omega) (by intros; rfl) (by omega) (by omega) (by intros; rfl)⟩
            case measure => simp [intOf]; omega
          · have hk1 : ((k : Int) == 0) = false := by simpa using hk0
            obtain rfl | rfl | rfl | rfl | rfl | rfl | rfl : e = 1 ∨ e = 2 ∨ e = 3 ∨ e = 4 ∨ e = 5 ∨ e = 6 ∨ e = 7 := by have := HE7.out; omega
            · go_wp2
              go_round
              case rel => exact ⟨k + 1, _, _, by omega, by go_num, rfl, rfl, HLR.out _ _ (by omega) (by intros; rfl) (by omega) (by omega) (by intros; rfl)⟩
              case measure => simp [intOf]; omega
            · go_wp2
              go_round
              case rel => exact ⟨k + 1, _, _, by omega, by go_num, rfl, rfl, HLR.out _ _ (by omega) (by intros; rfl) (by omega) (by omega) (by intros; rfl)⟩
              case measure => simp [intOf]; omega
            · go_wp2
              go_round
              case rel => exact ⟨k + 1, _, _, by omega, by go_num, rfl, rfl, HLR.out _ _ (by intros; rfl) (by omega) (by omega) (by omega) (by intros; rfl)⟩
              case measure => simp [intOf]; omega
            · go_wp2
              go_round
              case rel => exact ⟨k + 1, _, _, by omega, by go_num, rfl, rfl, HLR.out _ _ (by omega) (by intros; rfl) (by intros; rfl) (by omega) (by omega)⟩
              case measure => simp [intOf]; omega
            · go_wp2
              go_round
              case rel => exact ⟨k + 1, _, _, by omega, by go_num, rfl, rfl, HLR.out _ _ (by omega) (by intros; rfl) (by omega) (by omega) (by intros; rfl)⟩
              case measure => simp [intOf]; omega
            · go_wp2
              go_round
              case rel => exact ⟨k + 1, _, _, by omega, by go_num, rfl, rfl, HLR.out _ _ (by omega) (by intros; rfl) (by omega) (by omega) (by intros; rfl)⟩
              case measure => simp [intOf]; omega
            · go_wp2
              go_round
              case rel => exact ⟨k + 1, _, _, by omega, by go_num, rfl, rfl, HLR.out _ _ (by omega) (by intros; rfl) (by omega) (by intros; rfl) (by omega)⟩
              case measure => simp [intOf]; omega
        · obtain rfl : k = n := by omega
          clear hlt
          have hlt : ¬ k < k := by omega
          obtain rfl : lb = true := HLB.out (by rw [HFn.out]; omega)
          obtain rfl : rb = true := HRB.out (by rw [HFn.out]; omega)
          have hcl := HC1.out (k - 1) (by omega)
          rw [HLAST.out] at hcl
          obtain ⟨m, rfl⟩ : ∃ m, k = m + 1 := ⟨k - 1, by omega⟩
          rw [Nat.add_sub_cancel] at hcl
          have hx : IntKind.i64.wrap (((m + 1 : Nat) : Int) - 1) = (m : Int) := by rw [IntWalk.i64_in _ (by omega)]; omega
          go_wp2_with fail
          refine HN.out.mono ?_
          rintro x w2 ⟨rfl, hb2⟩
          have HB2 := Lib.hid (HB.out.trans (hb2.mono HB.out.size))
          have hcl2 : w2.cell? ⟨b, off + m, none⟩ = some (.int .i64 5) := (hb2.cell (p := ⟨b, off + m, none⟩) (cell_lt hcl)).trans hcl
          clear hb2
          go_wp2
          go_ret
          exact ⟨rfl, HB2.out⟩
    · have hs6 : (s == 6) = false := by simpa using hs
      have hs6' : (s != 6) = true := by simpa using hs
      clear hs
      go_enter Tryd.func7, Tryd.ntmps7
      go_wp2_with fail
      refine H1.out.mono ?_
      rintro e w1 ⟨rfl, hb1⟩
      have HB := Lib.hid hb1
      have HN := Lib.hid (alive_any w1 (H.out.below hb1))
      clear hb1
      go_wp2_with fail
      refine HN.out.mono ?_
      rintro x w2 ⟨rfl, hb2⟩
      have HB2 := Lib.hid (HB.out.trans (hb2.mono HB.out.size))
      clear hb2
      go_wp2
      go_ret
      exact ⟨rfl, HB2.out⟩
end Go.Proofs.YtdkojcmffkhpkaaDoor
