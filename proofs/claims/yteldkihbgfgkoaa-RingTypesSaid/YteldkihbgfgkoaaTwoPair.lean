/- Rings of [2]string: Peek, Pop. -/
import Derived.Test.YteldkihbgfgkoaaGrowPair
import Derived.Test.YteldkihbgfgkoaaStructs
import Derived.Deep.MidRow
namespace Go.Proofs.Yteldkihbgfgkoaa
open Go Go.RowKit Go.Deep
set_option linter.unusedVariables false

theorem rp_pair_one {x y : Value} (o1 : x.oneCell' = true) (o2 : y.oneCell' = true) : (#[x, y] : Array Value).all (·.oneCell') = true := by simp [o1, o2]
theorem rp_peek_out (b : Nat) (i c : Int) (w : World) (h3 : w.cell? ⟨b, 3, none⟩ = some (.int .i64 c)) (ho : i < 0 ∨ c ≤ i) :
    Calls Try.prog 40 #[.pointer (some ⟨b, 0, none⟩), .int .i64 i] w fun e w' => e = .returned (.tuple #[.agg #[.string ByteArray.empty, .string ByteArray.empty], .bool false]) ∧ Below w.heap.size w w' := by
  have hb := cell_lt h3
  by_cases h : i < 0
  · clear ho
    go_enter Try.func40, Try.ntmps40
    go_wp2
    refine bodyPost_ret (v := .tuple #[.agg #[.string ByteArray.empty, .string ByteArray.empty], .bool false]) (results_cell_row2 (fn := Try.f40) rfl _ _ w.heap.size 52 _ (0, 0) _ rfl (Blk.alloc (Blk.new w _ _) _) Try.underlying52 rfl (by kernel_rfl)) rfl ⟨rfl, ?_⟩
    exact ((Below.refl _ _).alloc (Nat.le_refl _) _).alloc (by simp) _
  · have h' : 0 ≤ i := by omega
    have h2 : c ≤ i := by omega
    clear ho
    go_enter Try.func40, Try.ntmps40
    go_wp2_with fail
    refine (rp_len_any _ c _ (Lib.cell?_alloc_some _ h3)).mono ?_
    rintro e w' ⟨rfl, rfl⟩
    go_wp2
    refine bodyPost_ret (v := .tuple #[.agg #[.string ByteArray.empty, .string ByteArray.empty], .bool false]) (results_cell_row2 (fn := Try.f40) rfl _ _ w.heap.size 52 _ (0, 0) _ rfl (Blk.alloc (Blk.new w _ _) _) Try.underlying52 rfl (by kernel_rfl)) rfl ⟨rfl, ?_⟩
    exact ((Below.refl _ _).alloc (Nat.le_refl _) _).alloc (by simp) _
theorem rp_peek_in (b g size n f c i : Nat) (C F : List Value) (x y : Value) (w : World) (hr : RingIn 71 52 2 w b g size n f c C) (hw : Wheel C (f * 2) F) (hF : F.length = c * 2) (hx : F[i * 2]? = some x) (hy : F[i * 2 + 1]? = some y) (o1 : x.oneCell' = true) (o2 : y.oneCell' = true) :
    Calls Try.prog 40 #[.pointer (some ⟨b, 0, none⟩), .int .i64 i] w fun e w' => e = .returned (.tuple #[.agg #[x, y], .bool true]) ∧ Below w.heap.size w w' := by
  obtain ⟨-, d1, d2, d3, -, -, -⟩ := hr.cells
  obtain ⟨B1, B2, hC, hfn, hcn, hns, hs⟩ := hr
  have hic : i < c := by
    rcases Nat.lt_or_ge (i * 2) F.length with h | h
    · omega
    · rw [List.getElem?_eq_none h] at hx; cases hx
  have hi1 : ¬ (i : Int) < 0 := by omega
  have hi2 : ¬ (c : Int) ≤ (i : Int) := by omega
  obtain ⟨p, hp⟩ : ∃ p : Nat, (f + i) % n = p := ⟨_, rfl⟩
  have hpn : p < n := by rw [← hp]; exact Nat.mod_lt _ (by omega)
  have hcell : w.cell? ⟨g, p * 2, none⟩ = some x := by
    rw [B2.cell, ← hp]
    have := hw.get hx
    rw [hC, ← Nat.add_mul, Nat.mul_mod_mul_right] at this
    simpa using this
  have hcell2 : w.cell? ⟨g, p * 2 + 1, none⟩ = some y := by
    rw [B2.cell, ← hp]
    have := hw.get hy
    have e : (f * 2 + (i * 2 + 1)) % (n * 2) = (f + i) % n * 2 + 1 := by
      rw [show f * 2 + (i * 2 + 1) = (f + i) * 2 + 1 by omega]
      rcases wmod (N := n) (s := f + i) (by omega) with ⟨h1, h2⟩ | ⟨h1, h2⟩
      · rw [h2, Nat.mod_eq_of_lt (by omega)]
      · rw [h2, Nat.mod_eq_sub_mod (by omega), Nat.mod_eq_of_lt (by omega)]; omega
    rw [hC, e] at this
    simpa using this
  have hslot : ∀ W : World, W.cell? ⟨b, 1, none⟩ = some (.slice (some ⟨g, 0, none⟩) n n) → W.cell? ⟨b, 2, none⟩ = some (.int .i64 f) → Calls Try.prog 38 #[.pointer (some ⟨b, 0, none⟩), .int .i64 i] W fun e w' => e = .returned (.int .i64 p) ∧ ∃ m, w' = W.drewN m := fun W x1 x2 => by
    have := rp_slot_any b n f i _ n W x1 x2 (by omega) (by omega) (by omega)
    rwa [hp] at this
  have hgl := B2.lt
  have hbl := B1.lt
  have hra : (w.alloc (.cells #[.string ByteArray.empty, .string ByteArray.empty] 52)).rangeAt g (p * 2) [x, y] := fun j v hv => by
    rcases j with _ | _ | j
    · injection hv with hv; subst hv; exact Lib.cell?_alloc_some _ hcell
    · injection hv with hv; subst hv; exact Lib.cell?_alloc_some _ hcell2
    · cases hv
  have HRA := Lib.hid hra
  have HSL := Lib.hid hslot
  have e1 := Lib.cell?_alloc_some (.cells #[.string ByteArray.empty, .string ByteArray.empty] 52) d1
  have e2 := Lib.cell?_alloc_some (.cells #[.string ByteArray.empty, .string ByteArray.empty] 52) d2
  clear hslot hp B1 B2 hC hw hF hx hy hra hcell hcell2
  go_enter Try.func40, Try.ntmps40
  go_wp2_with fail
  refine (rp_len_any _ c _ (Lib.cell?_alloc_some _ d3)).mono ?_
  rintro e w' ⟨rfl, rfl⟩
  go_wp2
  refine wp_region_quiet_tail 9 (by kernel_rfl) (by kernel_rfl) ?_
  simp only [List.take_succ_cons, List.take_zero, List.drop_succ_cons, List.drop_zero]
  iterate 8 (go_big_quiet_step ((go_at_call 38; exact Calls.quiet_of (HSL.out _ e1 e2))))
  refine q_valC (.agg #[x, y]) rfl (fun W hW => ?_) ?_
  · obtain ⟨q, rfl⟩ := hW
    have hl := run_loadAt_mid (P := Try.prog) ((w.alloc (.cells #[.string ByteArray.empty, .string ByteArray.empty] 52)).drewN q) g (p * 2) 52 [x, y] _ HRA.out Try.underlying52 rfl (by kernel_rfl)
    unfold execOp
    simp only [Act.eval, Sem.run_bind]
    erw [hl]
    rfl
  refine wpQuiet_nil ?_
  intro _ hw'
  obtain ⟨nr, hw''⟩ := hw'
  subst hw''
  refine wpList_store_row rfl _ _ _ rfl w.heap.size #[x, y] rfl rfl 52 _ (Blk.drewN (Blk.new w _ _) nr) (by kernel_rfl) rfl (by simp [o1, o2]) ?_
  have HB : Hid (Blk ((((w.alloc (.cells #[.string ByteArray.empty, .string ByteArray.empty] 52)).drewN nr)).setRow w.heap.size #[x, y]) w.heap.size 52 #[x, y]) := Lib.hid (Blk.setRow (Blk.drewN (Blk.new w _ _) nr) _)
  have HL : Hid (Below w.heap.size w ((((w.alloc (.cells #[.string ByteArray.empty, .string ByteArray.empty] 52)).drewN nr)).setRow w.heap.size #[x, y])) := Lib.hid (below_setRow (below_drewN ((Below.refl _ _).alloc (Nat.le_refl _) _) nr) (Nat.le_refl _) _)
  go_wp2
  refine bodyPost_ret (v := .tuple #[.agg #[x, y], .bool true]) (results_cell_row2 (fn := Try.f40) rfl _ _ w.heap.size 52 _ (0, 0) _ rfl HB.out Try.underlying52 rfl (by kernel_rfl)) rfl ⟨rfl, HL.out⟩
theorem rp_peek_at (b size c i : Nat) (go : Option Nat) (F : List Value) (x y : Value) (w : World) (hi : RingAt 71 52 2 w b go size c F) (hx : F[i * 2]? = some x) (hy : F[i * 2 + 1]? = some y) :
    Calls Try.prog 40 #[.pointer (some ⟨b, 0, none⟩), .int .i64 i] w fun e w' => e = .returned (.tuple #[.agg #[x, y], .bool true]) ∧ Below w.heap.size w w' := by
  obtain ⟨hF, hF1, ⟨rfl, rfl, _⟩ | ⟨g, n, f, C, rfl, h3, h4⟩⟩ := hi
  · obtain rfl : F = [] := List.eq_nil_of_length_eq_zero (by simpa using hF)
    simp at hx
  · exact rp_peek_in b g size n f c i C F x y w h3 h4 hF hx hy (hF1 _ (List.mem_of_getElem? hx)) (hF1 _ (List.mem_of_getElem? hy))

theorem rp_pop_empty (b : Nat) (w : World) (h3 : w.cell? ⟨b, 3, none⟩ = some (.int .i64 0)) :
    Calls Try.prog 26 #[.pointer (some ⟨b, 0, none⟩)] w fun e w' => e = .returned (.tuple #[.agg #[.string ByteArray.empty, .string ByteArray.empty], .bool false]) ∧ Below w.heap.size w w' := by
  have hb := cell_lt h3
  have HPK := Lib.hid (fun W => rp_peek_out b 0 0 W)
  have H3 := Lib.hid (Lib.cell?_alloc_some (.cells #[.string ByteArray.empty, .string ByteArray.empty] 52) h3)
  go_enter Try.func26, Try.ntmps26
  go_wp2_with fail
  refine (HPK.out _ H3.out (by omega)).mono ?_
  rintro e w1 ⟨rfl, hB⟩
  have hz : w.heap.size + 1 ≤ w1.heap.size := by have := hB.size; simpa using this
  have hR : Blk w1 w.heap.size 52 #[.string ByteArray.empty, .string ByteArray.empty] := Blk.below (Blk.new w _ _) hB (by simp)
  have HB : Hid (Below w.heap.size w w1) := Lib.hid (((Below.refl _ _).alloc (Nat.le_refl _) _).trans (hB.mono (by simp)))
  have HR := Lib.hid hR
  clear hB hR
  go_wp2_with (refine wpList_store_row rfl _ _ _ rfl w.heap.size #[.string ByteArray.empty, .string ByteArray.empty] rfl rfl 52 _ (HR.out.alloc _) (by kernel_rfl) rfl (rp_pair_one rfl rfl) ?_)
  have HB2 := Lib.hid (Blk.setRow (HR.out.alloc (.cells #[.string ByteArray.empty, .string ByteArray.empty] 52)) #[.string ByteArray.empty, .string ByteArray.empty])
  refine bodyPost_ret (v := .tuple #[.agg #[.string ByteArray.empty, .string ByteArray.empty], .bool false]) (results_cell_row2 (fn := Try.f26) rfl _ _ w.heap.size 52 _ (0, 0) _ rfl HB2.out Try.underlying52 rfl (by kernel_rfl)) rfl ⟨rfl, ?_⟩
  exact below_setRow (HB.out.alloc (by omega) _) (Nat.le_refl _) _

theorem rp_pop_in (b g size n f c : Nat) (C F : List Value) (x y : Value) (w : World) (hr : RingIn 71 52 2 w b g size n f (c + 1) C) (hw : Wheel C (f * 2) (x :: y :: F)) (hF : F.length = c * 2) (o1 : x.oneCell' = true) (o2 : y.oneCell' = true) :
    Calls Try.prog 26 #[.pointer (some ⟨b, 0, none⟩)] w fun e w' => e = .returned (.tuple #[.agg #[x, y], .bool true]) ∧
      (∃ f' C', RingIn 71 52 2 w' b g size n f' c C' ∧ Wheel C' (f' * 2) F) ∧ Kept (fun i => i = b ∨ i = g) w w' := by
  have hpk := fun W (hW : Hid (RingIn 71 52 2 W b g size n f (c + 1) C)) => rp_peek_in b g size n f (c + 1) 0 C (x :: y :: F) x y W hW.out hw (by simp [hF]; omega) (by simp) (by simp) o1 o2
  have HR0 := Lib.hid hr
  have hr0 := Lib.hid (hr.kept (S := fun _ => False) ((Kept.refl _ w).alloc (.cells #[.string ByteArray.empty, .string ByteArray.empty] 52)) id id)
  obtain ⟨B1, B2, hC, hfn, hcn, hns, hs⟩ := hr
  have hbl := B1.lt
  have hgl := B2.lt
  have HPK := Lib.hid hpk
  have HB1 := Lib.hid B1
  have HB2 := Lib.hid B2
  have HC := Lib.hid hC
  have HW := Lib.hid hw
  have HF := Lib.hid hF
  obtain ⟨s, hsv⟩ : ∃ s : Nat, (f + 1) % n = s := ⟨_, rfl⟩
  have hsn : s < n := by rw [← hsv]; exact Nat.mod_lt _ (by omega)
  have hslot : ∀ W : World, W.cell? ⟨b, 1, none⟩ = some (.slice (some ⟨g, 0, none⟩) n n) → W.cell? ⟨b, 2, none⟩ = some (.int .i64 f) → Calls Try.prog 38 #[.pointer (some ⟨b, 0, none⟩), .int .i64 1] W fun e w' => e = .returned (.int .i64 s) ∧ ∃ m, w' = W.drewN m := fun W x1 x2 => by
    have := rp_slot_any b n f 1 _ n W x1 x2 (by omega) (by omega) (by omega)
    rwa [hsv] at this
  have HSL := Lib.hid hslot
  have HSV := Lib.hid hsv
  clear hslot hsv hpk B1 B2 hC hw hF
  go_enter Try.func26, Try.ntmps26
  go_wp2_with fail
  refine (HPK.out _ hr0).mono ?_
  rintro e w1 ⟨rfl, hB⟩
  have hz : w.heap.size + 1 ≤ w1.heap.size := by have := hB.size; simpa using this
  have hR : Blk w1 w.heap.size 52 #[.string ByteArray.empty, .string ByteArray.empty] := Blk.below (Blk.new w _ _) hB (by simp)
  have HB : Hid (Below w.heap.size w w1) := Lib.hid (((Below.refl _ _).alloc (Nat.le_refl _) _).trans (hB.mono (by simp)))
  have HR := Lib.hid hR
  clear hB hR
  go_wp2_with (first
    | (refine wpList_store_row rfl _ _ _ rfl w1.heap.size #[x, y] rfl rfl 52 _ (Blk.new w1 _ _) (by kernel_rfl) rfl (rp_pair_one o1 o2) ?_; rw [World.setRow_alloc_new]))
  have hkw : Kept (fun _ => False) w (w1.alloc (.cells #[x, y] 52)) := (Kept.of_below HB.out).alloc _
  obtain ⟨d0, d1, d2, d3, -, fz2, fz3⟩ := (HR0.out.kept hkw id id).cells
  have HB1 := Lib.hid (HB1.out.kept hkw id)
  have HB2 := Lib.hid (HB2.out.kept hkw id)
  have HRES := Lib.hid (HR.out.alloc (.cells #[x, y] 52))
  have HX := Lib.hid (Blk.new w1 52 #[x, y])
  have HKW := Lib.hid hkw
  have hsz : w1.heap.size < (w1.alloc (.cells #[x, y] 52)).heap.size := by simp
  clear hkw HR HB
  generalize w1.alloc (.cells #[x, y] 52) = w2 at *
  refine wp_region_quiet_tail 14 (by kernel_rfl) (by kernel_rfl) ?_
  simp only [List.take_succ_cons, List.take_zero, List.drop_succ_cons, List.drop_zero]
  repeat (go_big_quiet_step (fail))
  refine wpQuiet_nil ?_
  intro _ hw'
  obtain ⟨nr, hw''⟩ := hw'
  subst hw''
  refine wpList_clearK rfl (.tmp 27) _ rfl 52 Try.underlying69 (.agg #[.string ByteArray.empty, .string ByteArray.empty]) (fun _ => by kernel_rfl) (by decide) g (f * 2) 1 (n - f) rfl (by omega) C 52 HB2.out (by have := HC.out; simp [Value.cells]; omega) ?_
  intro W1 HD1 K1
  have hbg : ¬ b = g := Blk.ne_ HB1.out HB2.out (by decide)
  have hB1 : Hid (Blk W1 b 71 #[.int .i64 size, .slice (some ⟨g, 0, none⟩) n n, .int .i64 f, .int .i64 ((c + 1 : Nat) : Int)]) := Lib.hid (Blk.kept (w := w2.drewN nr) HB1.out K1 hbg)
  have x1 := hB1.out.cell 1
  have x2 := hB1.out.cell 2
  have x3 : W1.cell? ⟨b, 3, none⟩ = some (.int .i64 ((c : Int) + 1)) := hB1.out.cell 3
  have y2 := hB1.out.frozen 2
  have y3 := hB1.out.frozen 3
  have HRES1 := Lib.hid (Blk.kept (w := w2.drewN nr) HRES.out K1 (by omega))
  have HX1 := Lib.hid (Blk.kept (w := w2.drewN nr) HX.out K1 (by omega))
  have HK1 := Lib.hid K1
  clear K1 d0 d1 d2 d3 fz2 fz3
  go_wp2_with fail
  refine (HSL.out _ x1 x2).mono ?_
  rintro e w' ⟨rfl, q2, rfl⟩
  have hn1 : w1.heap.size ≠ b := by omega
  have hn2 : w.heap.size ≠ b := by omega
  have HX2 := Lib.hid (Blk.far (Blk.far (HX1.out.drewN q2) (p := ⟨b, 2, none⟩) hn1 (.int .i64 s)) (p := ⟨b, 3, none⟩) hn1 (.int .i64 c))
  have HRES2 := Lib.hid (Blk.far (Blk.far (HRES1.out.drewN q2) (p := ⟨b, 2, none⟩) hn2 (.int .i64 s)) (p := ⟨b, 3, none⟩) hn2 (.int .i64 c))
  go_wp2_with (first
    | (refine wpList_load_row rfl _ _ rfl w1.heap.size rfl 52 #[x, y] (0, 0) _ HX2.out Try.underlying52 rfl (by kernel_rfl) ?_)
    | (refine wpList_store_row rfl _ _ _ rfl w.heap.size #[x, y] rfl rfl 52 _ HRES2.out (by kernel_rfl) rfl (rp_pair_one o1 o2) ?_))
  refine bodyPost_ret (v := .tuple #[.agg #[x, y], .bool true]) (results_cell_row2 (fn := Try.f26) rfl _ _ w.heap.size 52 _ (0, 0) _ rfl (Blk.setRow HRES2.out _) Try.underlying52 rfl (by kernel_rfl)) rfl ?_
  refine ⟨rfl, ⟨s, _, ⟨Blk.setRow_far ?_ (Ne.symm hn2) _, Blk.setRow_far (Blk.far (Blk.far (HD1.out) (Ne.symm hbg) _) (Ne.symm hbg) _) (by omega) _, ?_, hsn, by omega, hns, hs⟩, ?_⟩, ?_⟩
  · have := (hB1.out.set_ 2 (.int .i64 s)).set_ 3 (.int .i64 c)
    exact this
  · have := HC.out
    rw [length_splice _ _ _ (by simp [Builtin.zeroCells, Value.cells]; omega)]
    exact this
  · have hZ : (Builtin.zeroCells (Value.cells (.agg #[.string ByteArray.empty, .string ByteArray.empty])) 1).toList.length = 2 := by simp [Builtin.zeroCells, Value.cells]
    generalize (Builtin.zeroCells (Value.cells (.agg #[.string ByteArray.empty, .string ByteArray.empty])) 1).toList = Z at *
    have hfit : (f * 2) + Z.length ≤ C.length := by have := HC.out; omega
    have := pop_wheel (C' := splice C (f * 2) Z) HW.out (by simp) HC.out (length_splice _ _ _ hfit) (fun p hp => by
      rw [splice_get _ _ _ hfit]
      by_cases h1 : p < (f * 2)
      · rw [if_pos h1]
      · rw [if_neg h1, if_neg (by omega)])
    rw [HSV.out] at this
    exact this
  · refine Kept.setRow (S := fun i => i = b ∨ i = g) (Kept.setCell (S := fun i => i = b ∨ i = g) (Kept.setCell (S := fun i => i = b ∨ i = g) ?_ (.inl (.inl rfl)) _) (.inl (.inl rfl)) _) (.inr (Nat.le_refl _)) _
    exact (((HKW.out.more (fun _ _ h => h.elim)).drewN nr).trans HK1.out (fun _ _ h => .inr h)).drewN q2

/-- Pop: the first one. -/
theorem rp_pop_at (b size c : Nat) (go : Option Nat) (F : List Value) (x y : Value) (w : World) (hi : RingAt 71 52 2 w b go size (c + 1) (x :: y :: F)) :
    Calls Try.prog 26 #[.pointer (some ⟨b, 0, none⟩)] w fun e w' => e = .returned (.tuple #[.agg #[x, y], .bool true]) ∧ RingAt 71 52 2 w' b go size c F ∧ Kept (Foot b go) w w' := by
  obtain ⟨hF, hF1, ⟨rfl, h0, _⟩ | ⟨g, n, f, C, rfl, h3, h4⟩⟩ := hi
  · omega
  · have hl : F.length = c * 2 := by simp only [List.length_cons] at hF; omega
    exact (rp_pop_in b g size n f c C F x y w h3 h4 hl (hF1 _ (by simp)) (hF1 _ (by simp))).mono fun e w' ⟨he, ⟨f', C', k1, k2⟩, k3⟩ =>
      ⟨he, k1.at_ k2 hl (fun x hx => hF1 x (List.mem_cons_of_mem _ (List.mem_cons_of_mem _ hx))), k3.more fun i _ hi => hi.elim .inl (fun e => .inr (by rw [e]))⟩
end Go.Proofs.Yteldkihbgfgkoaa
