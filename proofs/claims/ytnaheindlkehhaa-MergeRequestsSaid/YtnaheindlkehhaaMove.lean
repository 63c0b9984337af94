/- The reference's Move. -/
import Derived.Test.YtnaheindlkehhaaRefR
import Derived.Test.YtnaheindlkehhaaRefs
namespace Go.Proofs.Ytnaheindlkehhaa
open Go Go.RowKit Go.Deep
set_option linter.unusedVariables false
set_option linter.unusedSimpArgs false
set_option maxRecDepth 100000

set_option maxHeartbeats 1600000 in
theorem refmove_any (S : Nat → Prop) (a : Option Addr) (l : List Val) (cp i j : Nat) (s d : Val) (w : World) (hL : Lst w S a l) (hl : l.length ≤ 4096) (hi : l[i]? = some s) (hj : l[j]? = some d) (hne : i ≠ j) (hs : FitsV s) (hd : FitsV d) (hsum : s.bal + d.bal ≤ 18446744073709551615) :
    Calls Try.prog 14 #[.slice a l.length cp, .int .i64 i, .int .i64 j] w fun e w' => ∃ u, e = .returned u ∧ w'.ownsRow w.heap.size 24 7 u l.length (flat ((l.set i (mvS s)).set j (mvD s d))) ∧ Below w.heap.size w w' := by
  have hil := (List.getElem?_eq_some_iff.1 hi).1
  have hjl := (List.getElem?_eq_some_iff.1 hj).1
  have HP1 := Lib.hid (fun (w : World) (h : Lst w S a l) => put_any S a cp i s (mvS s) l w h hl hi)
  have hj' : (l.set i (mvS s))[j]? = some d := by rw [List.getElem?_set_ne hne]; exact hj
  have HP2 := Lib.hid (fun (a : Option Addr) (cp : Nat) (w : World) (h : Lst w (fun _ => False) a (l.set i (mvS s))) => put_any (fun _ => False) a cp j d (mvD s d) (l.set i (mvS s)) w h (by rw [List.length_set]; exact hl) hj')
  rw [show (l.set i (mvS s)).length = l.length from List.length_set] at HP2
  obtain ⟨g, off, rfl, rs⟩ := hL.at hi
  obtain ⟨g', off', e', rd⟩ := hL.at hj
  injection e' with e'
  injection e' with e1 e2 e3
  subst e1 e2
  have hg : g < w.heap.size := by
    obtain ⟨b, o, e1, -, e2, -⟩ := hL (by omega)
    injection e1 with e1
    injection e1 with e1
    omega
  obtain ⟨t, ht⟩ : ∃ t, d.bal + s.bal = t := ⟨_, rfl⟩
  have hw : IntKind.u64.wrap (d.bal + s.bal) = t := by
    have h1 := hs.bal
    have h2 := hd.bal
    rw [ht]
    have h3 : 0 ≤ t := by omega
    have h4 : t ≤ 18446744073709551615 := by omega
    simp [IntKind.wrap, IntKind.signed, IntKind.bits]; omega
  have E : Hid (cellsV (mvD s d) = (cellsV d).setIfInBounds 0 (.int .u64 t)) := Lib.hid (by rw [← ht]; rfl)
  have E2 : Hid (cellsV (mvS s) = ((cellsV s).setIfInBounds 0 (.int .u64 0)).setIfInBounds 1 (.int .i64 7)) := Lib.hid rfl
  obtain ⟨n, hn⟩ : ∃ n, l.length = n := ⟨_, rfl⟩
  rw [hn] at hil hjl HP1 HP2 ⊢
  have HN := Lib.hid hn
  have k1 : ¬ (i : Int) < 0 := by omega
  have k2 : ¬ (n : Int) ≤ (i : Int) := by omega
  have k3 : (i : Int) < (n : Int) := by omega
  have m1 : ¬ (j : Int) < 0 := by omega
  have m2 : ¬ (n : Int) ≤ (j : Int) := by omega
  have m3 : (j : Int) < (n : Int) := by omega
  have RS := Lib.hid rs
  have RD : Hid ((w.alloc (.cells (cellsV s) 24)).rangeAt g (off + j * 7) d.row) := Lib.hid (World.rangeAt.same rd (Below.heap_alloc w _ g hg))
  have HB : Hid (Blk ((w.alloc (.cells (cellsV s) 24)).alloc (.cells (cellsV d) 24)) w.heap.size 24 (cellsV s) ∧ Blk ((w.alloc (.cells (cellsV s) 24)).alloc (.cells (cellsV d) 24)) (w.heap.size + 1) 24 (cellsV d) ∧ Below w.heap.size w ((w.alloc (.cells (cellsV s) 24)).alloc (.cells (cellsV d) 24))) :=
    Lib.hid ⟨Blk.alloc (Blk.new w _ _) _, tri_two w _ _ _, ((Below.refl _ _).alloc (Nat.le_refl _) _).alloc (by simp) _⟩
  have HL := Lib.hid hL
  clear rs rd hL hi hj hj' hs hd e3 hn hg hl hsum ht hne
  go_enter Try.func14, Try.ntmps14
  go_upto_region 3 with (first | (refine wpList_load_val rfl 24 _ rfl g (off + i * 7) rfl s _ RS.out Try.underlying24 rfl infoV ?_) | (refine wpList_load_val rfl 24 _ rfl g (off + j * 7) rfl d _ RD.out Try.underlying24 rfl infoV ?_) | (refine wpList_store_row rfl _ _ _ rfl w.heap.size (cellsV s) rfl rfl 24 _ (heap_alloc_new w _) infoV rfl (cellsV_one s) ?_; rw [World.setRow_alloc_new]) | (refine wpList_store_row rfl _ _ _ rfl (w.heap.size + 1) (cellsV d) rfl rfl 24 _ (tri_two w _ _ _) infoV rfl (cellsV_one d) ?_; rw [setRow_alloc2]))
  generalize (w.alloc (.cells (cellsV s) 24)).alloc (.cells (cellsV d) 24) = W at *
  have x0 : W.cell? ⟨w.heap.size, 0, none⟩ = some (.int .u64 s.bal) := HB.out.1.cell 0
  have x1 : W.cell? ⟨w.heap.size, 1, none⟩ = some (.int .i64 s.st) := HB.out.1.cell 1
  have y0 : W.cell? ⟨w.heap.size + 1, 0, none⟩ = some (.int .u64 d.bal) := HB.out.2.1.cell 0
  have f0 := HB.out.1.frozen 0
  have f1 := HB.out.1.frozen 1
  have g0 := HB.out.2.1.frozen 0
  go_upto_region 6 with (fail)
  have Z : Hid (Blk (((W.setCell ⟨w.heap.size + 1, 0, none⟩ (.int .u64 t)).setCell ⟨w.heap.size, 0, none⟩ (.int .u64 0)).setCell ⟨w.heap.size, 1, none⟩ (.int .i64 7)) w.heap.size 24 (cellsV (mvS s)) ∧ Blk (((W.setCell ⟨w.heap.size + 1, 0, none⟩ (.int .u64 t)).setCell ⟨w.heap.size, 0, none⟩ (.int .u64 0)).setCell ⟨w.heap.size, 1, none⟩ (.int .i64 7)) (w.heap.size + 1) 24 (cellsV (mvD s d)) ∧ Below w.heap.size w (((W.setCell ⟨w.heap.size + 1, 0, none⟩ (.int .u64 t)).setCell ⟨w.heap.size, 0, none⟩ (.int .u64 0)).setCell ⟨w.heap.size, 1, none⟩ (.int .i64 7))) := by
    obtain ⟨h1, h2, h3⟩ := HB.out
    refine Lib.hid ⟨?_, ?_, ?_⟩
    · rw [E2.out]
      exact ((h1.far (by simp) _).set_ 0 _).set_ 1 _
    · rw [E.out]
      exact ((h2.set_ 0 _).far (by simp) _).far (by simp) _
    · exact ((h3.setCell (by simp) _).setCell (by simp) _).setCell (by simp) _
  generalize ((W.setCell ⟨w.heap.size + 1, 0, none⟩ (.int .u64 t)).setCell ⟨w.heap.size, 0, none⟩ (.int .u64 0)).setCell ⟨w.heap.size, 1, none⟩ (.int .i64 7) = w3 at *
  clear HB x0 x1 y0 f0 f1 g0 E E2 hw RS RD
  refine wp_region_first (fun w' => Blk w' w.heap.size 24 (cellsV (mvS s)) ∧ Blk w' (w.heap.size + 1) 24 (cellsV (mvD s d))) 7 2 [0, 1, 2, 4, 5] (by kernel_rfl) (by kernel_rfl) ⟨Z.out.1, Z.out.2.1⟩ ?_
  simp only [List.filterMap_cons, List.filterMap_nil, List.getElem?_toArray, List.getElem?_cons_zero, List.getElem?_cons_succ]
  show wpQuiet _ _ _ _ [_, _, _, _, _] _
  iterate 2 (go_big_quiet_step ((intros; rfl)))
  refine q_load_val 24 _ w.heap.size 0 (mvS s) _ rfl rfl rfl (fun w' h => h.1.range) Try.underlying24 rfl infoV ?_
  simp only [Act.put, List.setIfInBounds_toArray, List.set_cons_zero, List.set_cons_succ]
  iterate 1 (go_big_quiet_step ((intros; rfl)))
  refine q_load_val 24 _ (w.heap.size + 1) 0 (mvD s d) _ rfl rfl rfl (fun w' h => h.2.range) Try.underlying24 rfl infoV ?_
  simp only [Act.put, List.setIfInBounds_toArray, List.set_cons_zero, List.set_cons_succ]
  refine wpQuiet_nil ?_
  have ZB : Hid (Below w.heap.size w w3.drew ∧ Blk w3.drew w.heap.size 24 (cellsV (mvS s)) ∧ Blk w3.drew (w.heap.size + 1) 24 (cellsV (mvD s d)) ∧ Lst w3.drew S (some ⟨g, off, none⟩) l) := Lib.hid ⟨Z.out.2.2.drew, Z.out.1, Z.out.2.1, (HL.out.below Z.out.2.2).drew⟩
  clear Z HL
  generalize w3.drew = w4 at *
  refine headF_one (i := 3) (by kernel_rfl) (by omega) ?_
  refine wpOp_at rfl rfl (wp_call_at rfl #[.slice (some ⟨g, off, none⟩) n cp, .int .i64 i, .agg (cellsV (mvS s))] (by kernel_rfl) Try.call24 ((HP1.out w4 ZB.out.2.2.2).mono ?_))
  rintro e w5 ⟨u, rfl, ho, b5⟩
  have hsl : (l.set i (mvS s)).length = n := by rw [List.length_set]; exact HN.out
  obtain ⟨a5, cp5, rfl, -, -, hl5⟩ : ∃ a cp, u = .slice a n cp ∧ n ≤ cp ∧ cp ≤ maxLen ∧ Lst w5 (fun _ => False) a (l.set i (mvS s)) := by
    have := owns_fresh (S := fun _ => False) (l := l.set i (mvS s)) (by rw [hsl]; exact ho) (fun _ _ h => h)
    rwa [hsl] at this
  have Y : Hid (Below w.heap.size w w5 ∧ Blk w5 w.heap.size 24 (cellsV (mvS s)) ∧ Blk w5 (w.heap.size + 1) 24 (cellsV (mvD s d)) ∧ Lst w5 (fun _ => False) a5 (l.set i (mvS s))) := Lib.hid ⟨ZB.out.1.trans (b5.mono ZB.out.1.size), ZB.out.2.1.below b5 ZB.out.2.1.lt, ZB.out.2.2.1.below b5 ZB.out.2.2.1.lt, hl5⟩
  clear ho b5 hl5 hsl ZB HP1
  refine ⟨_, rfl, ⟨Y.out.2.1, Y.out.2.2.1⟩, ?_⟩
  simp only [Act.put, List.getElem_toArray, List.getElem_cons_zero, List.getElem_cons_succ, List.setIfInBounds_toArray, List.set_cons_zero, List.set_cons_succ, List.drop_succ_cons, List.drop_zero]
  refine headF_one (i := 6) (by kernel_rfl) (by omega) ?_
  refine wpOp_at rfl rfl (wp_call_at rfl #[.slice a5 n cp5, .int .i64 j, .agg (cellsV (mvD s d))] (by kernel_rfl) Try.call24 ((HP2.out a5 cp5 w5 Y.out.2.2.2).mono ?_))
  rintro e w6 ⟨u, rfl, ho, b6⟩
  have hsz := Y.out.1.size
  have X : Hid (w6.ownsRow w.heap.size 24 7 u n (flat ((l.set i (mvS s)).set j (mvD s d))) ∧ Below w.heap.size w w6) := Lib.hid ⟨owns_base ho hsz, Y.out.1.trans (b6.mono hsz)⟩
  refine ⟨_, rfl, ⟨Y.out.2.1.below b6 Y.out.2.1.lt, Y.out.2.2.1.below b6 Y.out.2.2.1.lt⟩, ?_⟩
  clear ho b6 Y HP2
  show Region.seqB _ _ _ _ _ = true ∧ _
  refine ⟨by kernel_rfl, ?_⟩
  simp only [Act.put, List.getElem_toArray, List.getElem_cons_zero, List.getElem_cons_succ, List.setIfInBounds_toArray, List.set_cons_zero, List.set_cons_succ, List.drop_succ_cons, List.drop_zero]
  go_wp2
  refine NoPanic.normal ?_
  go_wp2_with fail
  go_ret
  exact ⟨_, rfl, X.out⟩
end Go.Proofs.Ytnaheindlkehhaa
