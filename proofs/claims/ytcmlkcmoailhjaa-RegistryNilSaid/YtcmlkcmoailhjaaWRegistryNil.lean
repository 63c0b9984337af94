/- The walk of RegistryNil. -/
import Derived.Test.YtcmlkcmoailhjaaWRegistryGets
namespace Go.Proofs.Ytcmlkcmoailhjaa
open Go Go.RowKit Go.Deep
set_option linter.unusedVariables false
set_option linter.unusedSimpArgs false

/-- A copy of one validator: its first cell may be written. -/
theorem owns_first {w : World} {base : Nat} {v : Val} {u : Value} (h : w.ownsRow base 29 7 u 1 (flat [v])) : ∃ g cp, u = .slice (some ⟨g, 0, none⟩) 1 cp ∧ base ≤ g ∧ w.cell? ⟨g, 0, none⟩ = some (.int .u64 v.bal) ∧ w.frozen? ⟨g, 0, none⟩ = false := by
  rcases h.2 with ⟨_, h0⟩ | ⟨g, cp, cur, rfl, h1, h2, _⟩
  · omega
  · refine ⟨g, cp, rfl, h1, ?_, by simp [World.frozen?, h2]⟩
    have := h.cells (g := g) rfl 0 (.int .u64 v.bal) (by simp [flat, Val.row])
    simpa [Addr.add] using this

set_option maxHeartbeats 3200000 in
theorem walk_RegistryNil (a0 : Val) (w : World) (w0 : FitsV a0) :
    Calls Try.prog 8 #[.agg (cellsV a0)] w fun e w' => e = .returned (.bool true) ∧ Below w.heap.size w w' := by
  have HF := Lib.hid w0
  have hbal := w0.bal
  have HE : Hid (Blk (w.alloc (.cells (cellsV a0) 29)) w.heap.size 29 (cellsV a0)) := Lib.hid (Blk.new _ _ _)
  have HB : Hid (Below w.heap.size w (w.alloc (.cells (cellsV a0) 29))) := Lib.hid ((Below.refl _ _).alloc (Nat.le_refl _) _)
  have HGN := Lib.hid (fun (w : World) => get_no none 0 w (fun w' _ => has_nil 0 w'))
  have HNEW : Hid (∀ w, Calls Try.prog 9 #[.int .i64 1] w fun e w' => ∃ b S, e = .returned (.pointer (some ⟨b, 0, none⟩)) ∧ Reg w' b S 1 [] ∧ (∀ i, S i → w.heap.size ≤ i) ∧ Below w.heap.size w w') := Lib.hid (fun w => new_any 1 w (by decide) (by decide))
  have HADD := Lib.hid (fun (b : Nat) (S : Nat → Prop) (w : World) (h : Reg w b S 1 []) => addv_yes b 1 S [] a0 w h HF.out (by decide) (by simp [totalOf]; omega))
  have HGET := Lib.hid (fun (b : Nat) (S : Nat → Prop) (w : World) (h : Reg w b S 1 [a0]) => get_some b 1 0 S [a0] a0 w h rfl)
  obtain ⟨n0, hn0⟩ : ∃ n, w.heap.size = n := ⟨_, rfl⟩
  have HN0 := Lib.hid hn0
  rw [hn0] at HE
  clear w0
  go_enter Try.func8, Try.ntmps8
  go_wp2_with (refine wpList_load_val rfl 29 _ rfl n0 0 rfl a0 _ HE.out.range Try.underlying29 rfl infoV ?_)
  generalize w.alloc (.cells (cellsV a0) 29) = W at *
  refine (addv_nil a0 W).mono ?_
  rintro e w1 ⟨rfl, hb⟩
  have E1 := Lib.hid (HE.out.below hb HE.out.lt)
  have B1 := Lib.hid (HB.out.trans (hb.mono HB.out.size))
  clear hb HE HB
  go_wp2_with fail
  refine (HGN.out w1).mono ?_
  rintro e w2 ⟨rfl, hb⟩
  have E2 := Lib.hid ((E1.out.below hb E1.out.lt).alloc (.cells (cellsV val0) 29))
  have B2 := Lib.hid ((B1.out.trans (hb.mono B1.out.size)).alloc (Nat.le_trans B1.out.size hb.size) (.cells (cellsV val0) 29))
  clear hb E1 B1
  go_wp2_with (refine wpList_store_row rfl _ _ _ rfl w2.heap.size (cellsV val0) rfl rfl 29 _ (heap_alloc_new w2 _) infoV rfl (cellsV_one val0) ?_; rw [World.setRow_alloc_new])
  generalize w2.alloc (.cells (cellsV val0) 29) = W2 at *
  refine (HNEW.out W2).mono ?_
  rintro e w3 ⟨b, S, rfl, hr, hS, hb⟩
  have E3 := Lib.hid (E2.out.below hb E2.out.lt)
  have B3 := Lib.hid (B2.out.trans (hb.mono B2.out.size))
  have R3 := Lib.hid hr
  have hle : w.heap.size ≤ W2.heap.size := B2.out.size
  have hEl : n0 < W2.heap.size := E2.out.lt
  have S3 : Hid (∀ i, S i → n0 < i ∧ w.heap.size ≤ i) := Lib.hid (fun i hi => by have := hS i hi; omega)
  clear hr hS hb E2 B2
  go_wp2_with (refine wpList_load_val rfl 29 _ rfl n0 0 rfl a0 _ E3.out.range Try.underlying29 rfl infoV ?_)
  refine (HADD.out b S w3 R3.out).mono ?_
  rintro e w4 ⟨rfl, S4, hr, hm, hk⟩
  have R4 : Hid (Reg w4 b S4 1 [a0]) := Lib.hid hr
  have E4 := Lib.hid (E3.out.kept hk (fun hs => by have := (S3.out _ hs).1; omega))
  have hEl3 : n0 < w3.heap.size := E3.out.lt
  have hw3 := B3.out.size
  have S4' : Hid (∀ i, S4 i → n0 < i ∧ w.heap.size ≤ i) := Lib.hid (fun i hi => (hm i hi).elim (S3.out i) (fun h => by omega))
  have B4 := Lib.hid (Kept.below B3.out hk (fun i hi => (S3.out i hi).2) B3.out.size)
  clear hr hm hk R3 E3 B3 S3
  go_wp2_with fail
  refine (all_any b 1 S4 [a0] w4 R4.out).mono ?_
  rintro e w5 ⟨u, rfl, ho, hb⟩
  obtain ⟨g, cp, rfl, hg, c5, z5⟩ := owns_first (v := a0) ho
  have R5 := Lib.hid (R4.out.below hb)
  have E5 := Lib.hid (E4.out.below hb E4.out.lt)
  have B5 := Lib.hid (B4.out.trans (hb.mono B4.out.size))
  have hgS : Hid (¬ S4 g ∧ g ≠ n0 ∧ w.heap.size ≤ g) := Lib.hid ⟨fun hs => by have := R4.out.lt g hs; omega, by have := E4.out.lt; omega, by have := B4.out.size; omega⟩
  clear ho hb hg R4 E4 B4
  go_wp2_with fail
  go_loopw [12, 41] (fun s12 s41 wr => ∃ k : Nat, k ≤ 1 ∧ s41 = .int .i64 k ∧ Hid (k < 1 → wr.cell? ⟨g, k * 7, none⟩ = some (.int .u64 a0.bal) ∧ wr.frozen? ⟨g, k * 7, none⟩ = false) ∧ Hid (Reg wr b S4 1 [a0] ∧ Blk wr n0 29 (cellsV a0)) ∧ Below w.heap.size w wr) (fun _ s41 _ => 1 - (intOf s41).toNat)
  case atStart => exact ⟨0, by omega, rfl, Lib.hid (fun _ => by simpa using And.intro c5 z5), Lib.hid ⟨R5.out, E5.out⟩, B5.out⟩
  case round =>
    obtain ⟨k, hk, rfl, HC, HR, BB⟩ := hrel
    clear c5 z5 R5 E5 B5
    by_cases hlt : k < 1
    · obtain ⟨c, z⟩ := HC.out hlt
      have hk3 : (k : Int) < 1 := by omega
      have hk1 : ¬ (k : Int) < 0 := by omega
      have hk2 : ¬ (1 : Int) ≤ (k : Int) := by omega
      clear HC
      go_wp2
      go_roundw
      case rel =>
        refine ⟨k + 1, by omega, by go_num, Lib.hid (fun h => by omega), Lib.hid ⟨HR.out.1.kept (T := fun i => i = g) (Kept.setCell (S := fun i => i = g) (Kept.refl _ _) (.inl rfl) _) (fun i hi e => by subst e; exact hgS.out.1 hi), HR.out.2.far hgS.out.2.1.symm _⟩, BB.setCell hgS.out.2.2 _⟩
      case measure => simp [intOf]; omega
    · have hlt' : ¬ (k : Int) < 1 := by omega
      clear HC
      go_wp2_with fail
      refine (HGET.out b S4 _ HR.out.1).mono ?_
      rintro e w6 ⟨rfl, hb⟩
      have E6 := Lib.hid ((HR.out.2.below hb HR.out.2.lt).alloc (.cells (cellsV a0) 29))
      have N6 : Hid (Blk (w6.alloc (.cells (cellsV a0) 29)) w6.heap.size 29 (cellsV a0)) := Lib.hid (Blk.new _ _ _)
      have B6 := Lib.hid ((BB.trans (hb.mono BB.size)).alloc (Nat.le_trans BB.size hb.size) (.cells (cellsV a0) 29))
      clear hb HR BB
      go_wp2_with (refine wpList_store_row rfl _ _ _ rfl w6.heap.size (cellsV a0) rfl rfl 29 _ (heap_alloc_new w6 _) infoV rfl (cellsV_one a0) ?_; rw [World.setRow_alloc_new])
      generalize w6.alloc (.cells (cellsV a0) 29) = W6 at *
      refine (alive_any W6).mono ?_
      rintro e w7 ⟨rfl, hb⟩
      have E7 := Lib.hid (E6.out.below hb E6.out.lt)
      have N7 := Lib.hid (N6.out.below hb N6.out.lt)
      have B7 := Lib.hid (B6.out.trans (hb.mono B6.out.size))
      clear hb E6 N6 B6
      go_wp2_with (refine wpList_load_valG (by kernel_rfl) 29 _ rfl n0 0 rfl a0 _ E7.out.range Try.underlying29 rfl infoV ?_)
      refine (setv_nil 0 a0 w7).mono ?_
      rintro e w8 ⟨rfl, hb⟩
      have E8 := Lib.hid (E7.out.below hb E7.out.lt)
      have N8 := Lib.hid (N7.out.below hb N7.out.lt)
      have B8 := Lib.hid (B7.out.trans (hb.mono B7.out.size))
      have e8 : w8.cell? ⟨n0, 1, none⟩ = some (.int .i64 a0.st) := E8.out.cell 1
      clear hb E7 N7 B7
      go_wp2_with fail
      refine (len_nil _).mono ?_
      rintro e w9 ⟨rfl, rfl⟩
      go_wp2_with fail
      refine (active_nil _).mono ?_
      rintro e w9 ⟨rfl, rfl⟩
      go_wp2_with fail
      refine (total_nil _).mono ?_
      rintro e w9 ⟨rfl, rfl⟩
      go_wp2_with fail
      refine (count_nil _ _).mono ?_
      rintro e w9 ⟨rfl, rfl⟩
      go_wp2_with fail
      refine (all_nil _).mono ?_
      rintro e w9 ⟨rfl, rfl⟩
      go_wp2_with (first | (refine wpList_valG (.bool true) (by kernel_rfl) (exec_eqv rfl rfl (by simp)) ?_) | (refine wpList_load_valG (by kernel_rfl) 29 _ rfl w6.heap.size 0 rfl a0 _ N8.out.range Try.underlying29 rfl infoV ?_) | (refine wpList_load_valG (by kernel_rfl) 29 _ rfl n0 0 rfl a0 _ E8.out.range Try.underlying29 rfl infoV ?_))
      go_ret
      exact ⟨rfl, B8.out⟩
end Go.Proofs.Ytcmlkcmoailhjaa
