/- Rings of int: Peek, Pop. -/
import Derived.Test.YtcjohlbglbcglaaGrowInt
namespace Go.Proofs.Ytcjohlbglbcglaa
open Go.RowKit
set_option linter.unusedVariables false
set_option maxRecDepth 100000

theorem ri_peek_nil (i : Int) (w : World) : Calls Try.prog 37 #[.pointer none, .int .i64 i] w fun e w' => e = .returned (.tuple #[.int .i64 0, .bool false]) ∧ w = w' := by
  by_cases h : i < 0
  · go_enter Try.func37, Try.ntmps37
    go_wp2
    go_ret2
    exact ⟨rfl, rfl⟩
  · have h' : 0 ≤ i := by omega
    go_enter Try.func37, Try.ntmps37
    go_wp2_with fail
    refine (ri_len_nil _).mono ?_
    rintro e w' ⟨rfl, rfl⟩
    go_wp2
    go_ret2
    exact ⟨rfl, rfl⟩
theorem ri_peek_out (b : Nat) (i c : Int) (w : World) (h3 : w.cell? ⟨b, 3, none⟩ = some (.int .i64 c)) (ho : i < 0 ∨ c ≤ i) :
    Calls Try.prog 37 #[.pointer (some ⟨b, 0, none⟩), .int .i64 i] w fun e w' => e = .returned (.tuple #[.int .i64 0, .bool false]) ∧ w = w' := by
  by_cases h : i < 0
  · clear ho
    go_enter Try.func37, Try.ntmps37
    go_wp2
    go_ret2
    exact ⟨rfl, rfl⟩
  · have h' : 0 ≤ i := by omega
    have h2 : c ≤ i := by omega
    clear ho
    go_enter Try.func37, Try.ntmps37
    go_wp2_with fail
    refine (ri_len_any _ _ _ h3).mono ?_
    rintro e w' ⟨rfl, rfl⟩
    go_wp2
    go_ret2
    exact ⟨rfl, rfl⟩
theorem ri_peek_in (b g size n f c i : Nat) (C F : List Value) (v : Value) (w : World) (hr : RingIn 51 3 1 w b g size n f c C) (hw : Wheel C (f * 1) F) (hF : F.length = c * 1) (hv : F[i]? = some v) :
    Calls Try.prog 37 #[.pointer (some ⟨b, 0, none⟩), .int .i64 i] w fun e w' => e = .returned (.tuple #[v, .bool true]) ∧ ∃ m, w' = w.drewN m := by
  obtain ⟨-, d1, d2, d3, -, -, -⟩ := hr.cells
  obtain ⟨B1, B2, hC, hfn, hcn, hns, hs⟩ := hr
  have hic : i < c := by
    rcases Nat.lt_or_ge i F.length with h | h
    · omega
    · rw [List.getElem?_eq_none h] at hv; cases hv
  have hi1 : ¬ (i : Int) < 0 := by omega
  have hi2 : ¬ (c : Int) ≤ (i : Int) := by omega
  obtain ⟨p, hp⟩ : ∃ p : Nat, (f + i) % n = p := ⟨_, rfl⟩
  have hpn : p < n := by rw [← hp]; exact Nat.mod_lt _ (by omega)
  have hcell : w.cell? ⟨g, p, none⟩ = some v := by
    rw [B2.cell, ← hp]
    have := hw.get hv
    rw [hC] at this
    simpa using this
  have hslot : ∀ W : World, W.cell? ⟨b, 1, none⟩ = some (.slice (some ⟨g, 0, none⟩) n n) → W.cell? ⟨b, 2, none⟩ = some (.int .i64 f) → Calls Try.prog 31 #[.pointer (some ⟨b, 0, none⟩), .int .i64 i] W fun e w' => e = .returned (.int .i64 p) ∧ ∃ m, w' = W.drewN m := fun W x1 x2 => by
    have := ri_slot_any b n f i _ n W x1 x2 (by omega) (by omega) (by omega)
    rwa [hp] at this
  have HSL := Lib.hid hslot
  clear hslot hp B1 B2 hC hw hF hv
  go_enter Try.func37, Try.ntmps37
  go_wp2_with fail
  refine (ri_len_any _ _ _ d3).mono ?_
  rintro e w' ⟨rfl, rfl⟩
  go_wp2
  go_quiet ((go_at_call 31; exact Calls.quiet_of (HSL.out _ d1 d2)))
  go_wp2
  go_ret2
  exact ⟨rfl, _, rfl⟩
theorem ri_peek_at (b size c i : Nat) (go : Option Nat) (F : List Value) (v : Value) (w : World) (hi : RingAt 51 3 1 w b go size c F) (hv : F[i]? = some v) :
    Calls Try.prog 37 #[.pointer (some ⟨b, 0, none⟩), .int .i64 i] w fun e w' => e = .returned (.tuple #[v, .bool true]) ∧ ∃ m, w' = w.drewN m := by
  obtain ⟨hF, _, ⟨rfl, rfl, _⟩ | ⟨g, n, f, C, rfl, h3, h4⟩⟩ := hi
  · obtain rfl : F = [] := List.eq_nil_of_length_eq_zero (by simpa using hF)
    simp at hv
  · exact ri_peek_in b g size n f c i C F v w h3 h4 hF hv

theorem ri_pop_nil (w : World) : Calls Try.prog 38 #[.pointer none] w fun e w' => e = .returned (.tuple #[.int .i64 0, .bool false]) ∧ w = w' := by
  go_enter Try.func38, Try.ntmps38
  go_wp2_with fail
  refine (ri_peek_nil 0 _).mono ?_
  rintro e w' ⟨rfl, rfl⟩
  go_wp2
  go_ret2
  exact ⟨rfl, rfl⟩
theorem ri_pop_empty (b : Nat) (w : World) (h3 : w.cell? ⟨b, 3, none⟩ = some (.int .i64 0)) :
    Calls Try.prog 38 #[.pointer (some ⟨b, 0, none⟩)] w fun e w' => e = .returned (.tuple #[.int .i64 0, .bool false]) ∧ w = w' := by
  go_enter Try.func38, Try.ntmps38
  go_wp2_with fail
  refine (ri_peek_out b 0 0 _ h3 (by omega)).mono ?_
  rintro e w' ⟨rfl, rfl⟩
  go_wp2
  go_ret2
  exact ⟨rfl, rfl⟩
theorem ri_pop_in (b g size n f c : Nat) (C F : List Value) (v : Value) (w : World) (hr : RingIn 51 3 1 w b g size n f (c + 1) C) (hw : Wheel C (f * 1) (v :: F)) (hF : F.length = c * 1) :
    Calls Try.prog 38 #[.pointer (some ⟨b, 0, none⟩)] w fun e w' => e = .returned (.tuple #[v, .bool true]) ∧
      (∃ f' C', RingIn 51 3 1 w' b g size n f' c C' ∧ Wheel C' (f' * 1) F) ∧ Kept (fun i => i = b ∨ i = g) w w' := by
  have hpk := fun W (hW : Hid (W = w)) => ri_peek_in b g size n f (c + 1) 0 C (v :: F) v W (hW.out ▸ hr) hw (by simp [hF]) (by simp)
  obtain ⟨-, d1, d2, d3, -, fz2, fz3⟩ := hr.cells
  obtain ⟨B1, B2, hC, hfn, hcn, hns, hs⟩ := hr
  have HPK := Lib.hid hpk
  have HB1 := Lib.hid B1
  have HB2 := Lib.hid B2
  have HC := Lib.hid hC
  have HW := Lib.hid hw
  have HF := Lib.hid hF
  obtain ⟨s, hsv⟩ : ∃ s : Nat, (f + 1) % n = s := ⟨_, rfl⟩
  have hsn : s < n := by rw [← hsv]; exact Nat.mod_lt _ (by omega)
  have hslot : ∀ W : World, W.cell? ⟨b, 1, none⟩ = some (.slice (some ⟨g, 0, none⟩) n n) → W.cell? ⟨b, 2, none⟩ = some (.int .i64 f) → Calls Try.prog 31 #[.pointer (some ⟨b, 0, none⟩), .int .i64 1] W fun e w' => e = .returned (.int .i64 s) ∧ ∃ m, w' = W.drewN m := fun W x1 x2 => by
    have := ri_slot_any b n f 1 _ n W x1 x2 (by omega) (by omega) (by omega)
    rwa [hsv] at this
  have HSL := Lib.hid hslot
  have HSV := Lib.hid hsv
  clear hslot hsv hpk B1 B2 hC hw hF
  go_enter Try.func38, Try.ntmps38
  go_wp2_with fail
  refine (HPK.out _ (Lib.hid rfl)).mono ?_
  rintro e w' ⟨rfl, q, rfl⟩
  go_wp2
  refine wp_region_quiet_tail 14 (by kernel_rfl) (by kernel_rfl) ?_
  simp only [List.take_succ_cons, List.take_zero, List.drop_succ_cons, List.drop_zero]
  repeat (go_big_quiet_step (fail))
  refine wpQuiet_nil ?_
  intro _ hw'
  obtain ⟨nr, hw''⟩ := hw'
  subst hw''
  refine wpList_clearK rfl (.tmp 27) _ rfl 3 Try.underlying22 (.int .i64 0) (fun _ => by kernel_rfl) (by decide) g f 1 (n - f) rfl (by omega) C 3 HB2.out (by have := HC.out; simp [Value.cells]; omega) ?_
  intro W1 HD1 K1
  have hbg : ¬ b = g := Blk.ne_ HB1.out HB2.out (by decide)
  have hB1 : Hid (Blk W1 b 51 #[.int .i64 size, .slice (some ⟨g, 0, none⟩) n n, .int .i64 f, .int .i64 ((c + 1 : Nat) : Int)]) := Lib.hid (Blk.kept (w := (w.drewN q).drewN nr) HB1.out K1 hbg)
  have x1 := hB1.out.cell 1
  have x2 := hB1.out.cell 2
  have x3 : W1.cell? ⟨b, 3, none⟩ = some (.int .i64 ((c : Int) + 1)) := hB1.out.cell 3
  have y2 := hB1.out.frozen 2
  have y3 := hB1.out.frozen 3
  have HK1 := Lib.hid K1
  clear K1 d1 d2 d3 fz2 fz3
  go_wp2_with fail
  refine (HSL.out _ x1 x2).mono ?_
  rintro e w' ⟨rfl, q2, rfl⟩
  go_wp2
  go_ret2
  refine ⟨rfl, ⟨s, _, ⟨?_, Blk.far (Blk.far (HD1.out) (Ne.symm hbg) _) (Ne.symm hbg) _, ?_, hsn, by omega, hns, hs⟩, ?_⟩, ?_⟩
  · have := (hB1.out.set_ 2 (.int .i64 s)).set_ 3 (.int .i64 c)
    exact this
  · have := HC.out
    rw [length_splice _ _ _ (by simp [Builtin.zeroCells, Value.cells]; omega)]
    exact this
  · have hZ : (Builtin.zeroCells (Value.cells (.int .i64 0)) 1).toList.length = 1 := by simp [Builtin.zeroCells, Value.cells]
    generalize (Builtin.zeroCells (Value.cells (.int .i64 0)) 1).toList = Z at *
    have hfit : f + Z.length ≤ C.length := by have := HC.out; omega
    have := pop_wheel (C' := splice C f Z) HW.out (by simp) HC.out (length_splice _ _ _ hfit) (fun p hp => by
      rw [splice_get _ _ _ hfit]
      by_cases h1 : p < f
      · rw [if_pos h1]
      · rw [if_neg h1, if_neg (by omega)])
    rw [HSV.out] at this
    exact this
  · refine Kept.setCell (S := fun i => i = b ∨ i = g) (Kept.setCell (S := fun i => i = b ∨ i = g) ?_ (.inl (.inl rfl)) _) (.inl (.inl rfl)) _
    exact ((((Kept.refl _ w).drewN q).drewN nr).trans HK1.out (fun _ _ h => .inr h)).drewN q2

/-- Pop: the first one. -/
theorem ri_pop_at (b size c : Nat) (go : Option Nat) (F : List Value) (v : Value) (w : World) (hi : RingAt 51 3 1 w b go size (c + 1) (v :: F)) :
    Calls Try.prog 38 #[.pointer (some ⟨b, 0, none⟩)] w fun e w' => e = .returned (.tuple #[v, .bool true]) ∧ RingAt 51 3 1 w' b go size c F ∧ Kept (Foot b go) w w' := by
  obtain ⟨hF, hF1, ⟨rfl, h0, _⟩ | ⟨g, n, f, C, rfl, h3, h4⟩⟩ := hi
  · omega
  · have hl : F.length = c * 1 := by simp only [List.length_cons] at hF; omega
    exact (ri_pop_in b g size n f c C F v w h3 h4 hl).mono fun e w' ⟨he, ⟨f', C', k1, k2⟩, k3⟩ =>
      ⟨he, k1.at_ k2 hl (fun x hx => hF1 x (List.mem_cons_of_mem _ hx)), k3.more fun i _ hi => hi.elim .inl (fun e => .inr (by rw [e]))⟩
end Go.Proofs.Ytcjohlbglbcglaa
