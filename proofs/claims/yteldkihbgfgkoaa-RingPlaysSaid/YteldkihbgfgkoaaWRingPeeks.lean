/- The walk of RingPeeks. -/
import Derived.Test.YteldkihbgfgkoaaDo
import Derived.Test.YteldkihbgfgkoaaFew
import Derived.Outline
namespace Go.Proofs.Yteldkihbgfgkoaa
open Go Go.RowKit Go.OpenShut
set_option linter.unusedVariables false

theorem isRow_below {k : IntKind} {w w' : World} {a : Option Addr} {len cap : Nat} {z : List Int} (h : IsRow k w a len cap z) (hb : Below w.heap.size w w') : IsRow k w' a len cap z := by
  rcases h with h | ⟨x, h1, h2, h3, h4, h5, h6⟩
  · exact .inl h
  · exact .inr ⟨x, h1, h2, h3, h4, fun i hi => (hb.cell (cell_lt (h5 i hi))).trans (h5 i hi), h6⟩

/-- One operation out of the argument, where the law's loop stands. -/
theorem op_at {w w1 wr : World} {a : Option Addr} {len cap k : Nat} (h : IsOps w a len cap) (hf : FewTo w1 a len) (h1 : Below w.heap.size w w1) (hr : Below w.heap.size w wr) (hk : k < len) :
    ∃ b off kd al ll cl z, a = some ⟨b, off, none⟩ ∧ wr.cell? ⟨b, off + k * 2, none⟩ = some (.int .i64 kd) ∧ wr.cell? ⟨b, off + k * 2 + 1, none⟩ = some (.slice al ll cl) ∧ IsRow .i64 wr al ll cl z ∧ IntsAt wr (fun i => w.heap.size ≤ i) al (z.take ll) ∧ ll ≤ 50 := by
  obtain ⟨b, off, rfl, hbl, hc⟩ := h.2.2 (by omega)
  obtain ⟨kd, al, ll, cl, z, x1, x2, hrow⟩ := hc k hk
  refine ⟨b, off, kd, al, ll, cl, z, rfl, (hr.cell (p := ⟨b, off + k * 2, none⟩) hbl).trans x1, (hr.cell (p := ⟨b, off + k * 2 + 1, none⟩) hbl).trans x2, isRow_below hrow hr, ?_, ?_⟩
  · exact ((IntsAt.of_row (S := fun i => w.heap.size ≤ i) hrow (fun i hi h => by omega)).1).kept (Kept.of_below (S := fun _ => False) hr) (fun _ _ h => h.elim)
  · exact hf b off rfl k hk al ll cl ((h1.cell (p := ⟨b, off + k * 2 + 1, none⟩) hbl).trans x2)
theorem Both.new_ {w : World} {B b size : Nat} {g : Option Nat} (h : RingAt 61 3 1 w b g size 0 []) (hB : ∀ i, Foot b g i → B ≤ i) (hd : B ≤ w.heap.size) :
    Both (w.alloc (.cells #[.slice none 0 0, .int .i64 size] 30)) B b w.heap.size size g [] :=
  ⟨h.kept (S := fun _ => False) ((Kept.refl _ _).alloc _) (fun _ _ h => h), refAt_new w _ size, hB, fun hf => Nat.lt_irrefl _ (h.lt _ hf), hd, by simp⟩

set_option maxRecDepth 100000 in
set_option maxHeartbeats 1000000 in
theorem walk_RingPeeks (a0 : Int) (a1 : Option Addr) (len1 cap1 : Nat) (a2 : Int) (w : World) (w0 : (Lit.int .u8 a0).wf = true) (w1 : IsOps w a1 len1 cap1) (w2 : (Lit.int .i64 a2).wf = true) :
    Calls Try.prog 4 #[.int .u8 a0, .slice a1 len1 cap1, .int .i64 a2] w fun e w' => e = .returned (.bool true) ∧ Below w.heap.size w w' := by
  obtain ⟨u0, u1⟩ := bounds_u8 w0
  obtain ⟨n, hn, hn1, hn2⟩ : ∃ n : Nat, a0 % 20 + 1 = n ∧ 1 ≤ n ∧ n ≤ 20 := ⟨(a0 % 20 + 1).toNat, by omega, by omega, by omega⟩
  have W1 := Lib.hid w1
  have hl1 : len1 ≤ 9223372036854775807 := by have := w1.1; have := w1.2.1; unfold maxLen at this; omega
  clear w0 w1 w2
  go_enter Try.func4, Try.ntmps4
  go_wp2_with fail
  refine (ri_new_some n _ hn1 (by omega)).mono ?_
  rintro e w1 ⟨rfl, hw1⟩
  have R1 : Hid (RingAt 61 3 1 w1 w.heap.size none n 0 []) := by rw [← hw1]; exact Lib.hid (ringAt_new w _ _ 1 n hn1 (by omega))
  have B1 : Below w.heap.size w w1 := by rw [← hw1]; exact (Below.refl _ _).alloc (Nat.le_refl _) _
  clear hw1
  have BO : Both (w1.alloc (.cells #[.slice none 0 0, .int .i64 n] 30)) w.heap.size w.heap.size w1.heap.size n none [] := Both.new_ R1.out (foot_none (Nat.le_refl _)) B1.size
  have B2 : Below w.heap.size w (w1.alloc (.cells #[.slice none 0 0, .int .i64 n] 30)) := B1.alloc B1.size _
  go_wp2_with fail
  generalize w1.alloc (.cells #[.slice none 0 0, .int .i64 n] 30) = w2 at *
  have hops : IsOps w2 a1 len1 cap1 := by
    obtain ⟨h1, h2, h3⟩ := W1.out
    refine ⟨h1, h2, fun h0 => ?_⟩
    obtain ⟨b, off, e, hb, hc⟩ := h3 h0
    refine ⟨b, off, e, Nat.lt_of_lt_of_le hb B2.size, fun i hi => ?_⟩
    obtain ⟨k, al, ll, cl, z, x1, x2, hr⟩ := hc i hi
    exact ⟨k, al, ll, cl, z, (B2.cell (p := ⟨b, off + i * 2, none⟩) hb).trans x1, (B2.cell (p := ⟨b, off + i * 2 + 1, none⟩) hb).trans x2, isRow_below hr B2⟩
  refine (few_any a1 len1 cap1 _ hops).mono ?_
  rintro e w3 ⟨r, rfl, hr, hb3⟩
  have B3 : Below w.heap.size w w3 := B2.trans (hb3.mono B2.size)
  have BO3 := BO.kept (Kept.of_below (S := fun _ => False) hb3)
  have hr' : r = true → FewTo w3 a1 len1 := fun h b off e i hi al ll cl hc => by
    obtain ⟨b', off', e', hb', hc'⟩ := W1.out.2.2 (by omega)
    have hf := (hr h).2 b off e i hi al ll cl
    refine hf ?_
    rw [e] at e'
    injection e' with e'
    injection e' with e1 e2
    subst e1 e2
    rw [← hb3.cell (p := ⟨b, off + i * 2 + 1, none⟩) (Nat.lt_of_lt_of_le hb' B2.size)]
    exact hc
  have HR := Lib.hid hr'
  clear hr hr' hops BO B2 hb3 R1
  cases r with
  | false =>
    go_wp2_with fail
    refine (alive_any _).mono ?_
    rintro e w4 ⟨rfl, hb4⟩
    go_wp2_with fail
    go_ret
    exact ⟨rfl, B3.trans (hb4.mono B3.size)⟩
  | true =>
    have FEW := Lib.hid (HR.out rfl)
    clear HR
    go_wp2
    go_loopw [33] (fun s33 wr => ∃ (k : Nat) (g : Option Nat) (L : List Int), k ≤ len1 ∧ s33 = .int .i64 k ∧ Both wr w.heap.size w.heap.size w1.heap.size n g L ∧ Below w.heap.size w wr) (fun s33 _ => len1 - (intOf s33).toNat)
    case atStart => exact ⟨0, none, [], by omega, rfl, BO3, B3⟩
    case round =>
      obtain ⟨k, g, L, hk, rfl, BO, BR⟩ := hrel
      clear BO3
      by_cases hkl : k < len1
      · obtain ⟨lb, off, kd, al, ll, cl, z, rfl, x1, x2, hrow, hints, h50⟩ := op_at W1.out FEW.out B3 BR hkl
        have HRow := Lib.hid (isRow_below hrow ((Below.refl _ wr).alloc (Nat.le_refl _) (.cells #[.int .i64 kd, .slice al ll cl] 32)))
        have HInts := Lib.hid (hints.kept (T := fun _ => False) ((Kept.refl _ wr).alloc (.cells #[.int .i64 kd, .slice al ll cl] 32)) (fun _ _ h => h.elim))
        have BO' := BO.kept ((Kept.refl _ wr).alloc (.cells #[.int .i64 kd, .slice al ll cl] 32))
        clear hrow hints
        go_wp2_with fail
        refine (do_any kd al ll cl z BO' HRow.out HInts.out h50).mono ?_
        rintro e w5 ⟨rfl, ⟨g5, L5, b5⟩, f5⟩
        have B5 := f5 _ (BR.alloc BR.size _)
        clear f5
        go_wp2
        go_roundw
        case rel => exact ⟨k + 1, g5, L5, by omega, by go_num, b5, B5⟩
        case measure => simp [intOf]; omega
      · obtain rfl : len1 = k := by omega
        have hend : ∃ (x : Int) (ok : Bool), (∀ m, Calls Try.prog 17 #[.pointer (some ⟨w.heap.size, 0, none⟩), .int .i64 a2] (wr.drewN m) fun e w' => e = .returned (.tuple #[.int .i64 x, .bool ok]) ∧ ∃ m, w' = wr.drewN m) ∧
            ∀ m, Calls Try.prog 18 #[.pointer (some ⟨w1.heap.size, 0, none⟩), .int .i64 a2] (wr.drewN m) fun e w' => e = .returned (.tuple #[.int .i64 x, .bool ok]) ∧ wr.drewN m = w' := by
          by_cases hin : a2 < 0 ∨ (L.length : Int) ≤ a2
          · exact ⟨0, false, fun m => (ri_peek_out _ a2 _ (wr.drewN m) BO.1.cells.2 hin).mono fun e w' ⟨he, hw⟩ => ⟨he, m, hw.symm⟩, fun m => refpeek_out _ _ n a2 L _ (BO.2.1.drewN m) hin⟩
          · obtain ⟨j, rfl, hj⟩ : ∃ j : Nat, a2 = j ∧ j < L.length := ⟨a2.toNat, by omega, by omega⟩
            exact ⟨L.getD j 0, true, fun m => (ri_peek_at _ n _ j g _ _ _ (BO.1.drewN m) (by rw [List.getElem?_map, List.getD_eq_getElem?_getD, List.getElem?_eq_getElem hj]; rfl)).mono fun e w' ⟨he, q, hw⟩ => ⟨he, m + q, by rw [hw, World.drewN_drewN]⟩, fun m => refpeek_at _ _ n j L _ (BO.2.1.drewN m) hj⟩
        obtain ⟨x, ok, hp1, hp2⟩ := hend
        have HP1 := Lib.hid (hp1 0)
        have HP2 := Lib.hid hp2
        clear hp1 hp2
        go_wp2_with fail
        refine HP1.out.mono ?_
        rintro e w6 ⟨rfl, m, rfl⟩
        go_wp2_with fail
        refine (HP2.out m).mono ?_
        rintro e w6 ⟨rfl, rfl⟩
        go_wp2
        have BOm : Both (wr.drewN m) w.heap.size w.heap.size w1.heap.size n g L := BO
        have BRm : Below w.heap.size w (wr.drewN m) := below_drewN BR m
        clear BO BR HP1 HP2
        generalize wr.drewN m = W at *
        refine wp_region_first (fun _ => True) 19 19 [] (by kernel_rfl) (by kernel_rfl) trivial ?_
        simp only [List.filterMap_nil]
        refine wpQuiet_nil ?_
        refine headF_one (i := 0) (by kernel_rfl) (by omega) ?_
        refine wpOp_at rfl rfl (wp_call_at rfl #[] (by kernel_rfl) Try.call10 ((alive_any W.drew).mono ?_))
        rintro e w4 ⟨rfl, hb4⟩
        refine ⟨_, rfl, trivial, ?_⟩
        have BO4 := BOm.kept ((Kept.refl _ W).drew.trans (Kept.of_below (S := fun _ => False) hb4) (fun _ _ h => h))
        have B4 : Below w.heap.size w w4 := BRm.drew.trans (hb4.mono BRm.size)
        obtain ⟨ra, rc, rb, ri, rl, rm, rs⟩ := BO4.2.1
        have HRB := Lib.hid rb
        have HRI := Lib.hid ri
        have HBO := Lib.hid BO4
        clear rb ri BO4 BOm hb4
        simp only [Act.put, List.getElem_toArray, List.getElem_cons_zero, List.setIfInBounds_toArray, List.set_cons_zero, List.set_cons_succ]
        refine headF_takes (fun w' => w'.cell? ⟨w1.heap.size, 0, none⟩ = some (.slice ra L.length rc)) (m := 18) (f := 2) [1, 2, 3, 4, 5, 6, 7, 8, 9, 10, 11, 12, 14, 15, 16, 17] (fun _ _ => trivial) (by kernel_rfl) (HRB.out.cell 0) ?_
        simp only [List.filterMap_cons, List.filterMap_nil, List.getElem?_toArray, List.getElem?_cons_zero, List.getElem?_cons_succ]
        show wpQuiet _ _ _ _ [_, _, _, _, _, _, _, _, _, _, _, _, _, _, _, _] _
        iterate 15 (go_big_quiet_step ((intros; rfl)))
        refine q_cell 28 _ _ (.slice ra L.length rc) (by kernel_rfl) rfl rfl (fun w h => by simp [go_sem, h]) (fun w h => h) ?_
        simp only [Act.put, List.setIfInBounds_toArray, List.set_cons_zero, List.set_cons_succ]
        refine wpQuiet_nil ?_
        refine headF_one (i := 13) (by kernel_rfl) (by omega) ?_
        refine wpOp_atG rfl (by kernel_rfl) (wp_call_at rfl #[.pointer (some ⟨w.heap.size, 0, none⟩)] (by kernel_rfl) Try.call16 ((ri_all_any w.heap.size n L.length g _ w4 HBO.out.1).mono ?_))
        rintro e w5 ⟨rfl, hb5, bel5⟩
        refine ⟨_, rfl, (bel5.cell (HRB.out.lt)).trans (HRB.out.cell 0), ?_⟩
        have B5 : Below w.heap.size w w5 := B4.trans (bel5.mono B4.size)
        have heq := equal_same (c := L.length) (d := rc) (IntsAt.of_blk (S := fun _ => False) hb5 id) (HRI.out.kept (Kept.of_below (S := fun _ => False) bel5) (fun _ _ h => h.elim)) rfl (by omega)
        have HEQ := Lib.hid heq
        clear heq hb5
        refine headF_one (i := 18) (by kernel_rfl) (by omega) ?_
        refine wpOp_atG rfl (by kernel_rfl) (wp_call_at rfl #[.slice (some ⟨w4.heap.size, 0, none⟩) L.length L.length, .slice ra L.length rc] (by kernel_rfl) Try.call15 (HEQ.out.mono ?_))
        rintro e w6 ⟨rfl, q, rfl⟩
        refine ⟨_, rfl, (bel5.cell (HRB.out.lt)).trans (HRB.out.cell 0), ?_⟩
        clear bel5
        show Region.seqB _ _ _ _ _ = true ∧ _
        refine ⟨by kernel_rfl, ?_⟩
        simp only [Act.put, List.getElem_toArray, List.getElem_cons_zero, List.getElem_cons_succ, List.setIfInBounds_toArray, List.set_cons_zero, List.set_cons_succ, List.drop_succ_cons, List.drop_zero]
        go_wp2
        refine NoPanic.normal ?_
        go_wp2
        go_ret
        exact ⟨rfl, below_drewN B5 q⟩
end Go.Proofs.Yteldkihbgfgkoaa
