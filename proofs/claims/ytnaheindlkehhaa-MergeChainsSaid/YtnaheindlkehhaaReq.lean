/- within, reversed, Request. -/
import Derived.Test.YtnaheindlkehhaaApply
import Derived.Lib.MinMax
namespace Go.Proofs.Ytnaheindlkehhaa
open Go Go.RowKit Go.Deep
set_option linter.unusedVariables false
set_option linter.unusedSimpArgs false
set_option maxRecDepth 100000

def inB (p : Int × Int) (n : Nat) : Bool := decide (0 ≤ p.1 ∧ 0 ≤ p.2 ∧ p.1 < n ∧ p.2 < n)
theorem within_any (p : Int × Int) (n : Nat) (w : World) :
    Calls Try.prog 30 #[.agg (cellsP p), .int .i64 n] w fun e w' => e = .returned (.bool (inB p n)) ∧ Below w.heap.size w w' := by
  have hB : Blk (w.alloc (.cells (cellsP p) 61)) w.heap.size 61 (cellsP p) := Blk.new _ _ _
  have x0 : (w.alloc (.cells (cellsP p) 61)).cell? ⟨w.heap.size, 0, none⟩ = some (.int .i64 p.1) := hB.cell 0
  have x1 : (w.alloc (.cells (cellsP p) 61)).cell? ⟨w.heap.size, 1, none⟩ = some (.int .i64 p.2) := hB.cell 1
  have B := Lib.hid (show Below w.heap.size w (w.alloc (.cells (cellsP p) 61)) from (Below.refl _ _).alloc (Nat.le_refl _) _)
  clear hB
  obtain ⟨p1, p2⟩ := p
  simp only at x0 x1
  go_enter Try.func30, Try.ntmps30
  go_upto_region 1 with (fail)
  generalize w.alloc (.cells (cellsP (p1, p2)) 61) = W at *
  go_wp2
  · rename_i h
    go_ret
    exact ⟨ret_bool (decide_eq_decide.2 (by show max p1 p2 < (n : Int) ↔ (0 ≤ p1 ∧ 0 ≤ p2 ∧ p1 < n ∧ p2 < n); omega)), B.out⟩
  · rename_i h
    go_ret
    exact ⟨ret_bool (decide_eq_false (by show ¬ (0 ≤ p1 ∧ 0 ≤ p2 ∧ p1 < (n : Int) ∧ p2 < (n : Int)); omega)).symm, B.out⟩
theorem reversed_any (p : Int × Int) (w : World) :
    Calls Try.prog 31 #[.agg (cellsP p)] w fun e w' => e = .returned (.agg (cellsP (p.2, p.1))) ∧ Below w.heap.size w w' := by
  have hB : Blk ((w.alloc (.cells (cellsP p) 61)).alloc (.cells (cellsP (0, 0)) 61)) w.heap.size 61 (cellsP p) := Blk.alloc (Blk.new _ _ _) _
  have x0 : ((w.alloc (.cells (cellsP p) 61)).alloc (.cells (cellsP (0, 0)) 61)).cell? ⟨w.heap.size, 0, none⟩ = some (.int .i64 p.1) := hB.cell 0
  have x1 : ((w.alloc (.cells (cellsP p) 61)).alloc (.cells (cellsP (0, 0)) 61)).cell? ⟨w.heap.size, 1, none⟩ = some (.int .i64 p.2) := hB.cell 1
  have hz : (#[.int .i64 0, .int .i64 0] : Array Value) = cellsP (0, 0) := rfl
  have Z := Lib.hid (tri_two w (.cells (cellsP p) 61) (cellsP (0, 0)) 61)
  have B := Lib.hid (show Below w.heap.size w ((w.alloc (.cells (cellsP p) 61)).alloc (.cells (cellsP (0, 0)) 61)) from ((Below.refl _ _).alloc (Nat.le_refl _) _).alloc (by simp) _)
  clear hB
  go_enter Try.func31, Try.ntmps31
  go_upto_region 1 with (fail)
  generalize (w.alloc (.cells (cellsP p) 61)).alloc (.cells (cellsP (0, 0)) 61) = W at *
  clear hz
  go_wp2_with (first | (refine wpList_build rfl 61 _ rfl (by kernel_rfl) ?_; rw [show (Try.prog.built 61 _).getD #[] = cellsP (p.2, p.1) from by kernel_rfl]) | (refine wpList_store_row rfl _ _ _ rfl (w.heap.size + 1) (cellsP (p.2, p.1)) rfl rfl 61 _ Z.out infoM rfl (cellsP_one _) ?_))
  exact bodyPost_ret (v := .agg (cellsP (p.2, p.1))) (results_cell_row (fn := Try.f31) rfl _ _ (w.heap.size + 1) 61 _ (0, 0) _ rfl (setRow_heap _ _ _ _ _ _ Z.out) Try.underlying61 rfl infoM) rfl ⟨rfl, below_setRow B.out (by omega) _⟩
/-- Request's two boxes. -/
def ReqB (w W : World) (p : Int × Int) (c : Nat → Int) : Prop :=
  Blk W w.heap.size 26 (cellsOf c) ∧ Blk W (w.heap.size + 1) 61 (cellsP p) ∧ Below w.heap.size w W
theorem ReqB.new (w : World) (p : Int × Int) (c : Nat → Int) : ReqB w ((w.alloc (.cells (cellsOf c) 26)).alloc (.cells (cellsP p) 61)) p c :=
  ⟨Blk.alloc (Blk.new w _ _) _, tri_two w _ _ _, ((Below.refl _ _).alloc (Nat.le_refl _) _).alloc (by simp) _⟩
theorem ReqB.next {w W W' : World} {p : Int × Int} {c : Nat → Int} (h : ReqB w W p c) (hb : Below W.heap.size W W') : ReqB w W' p c :=
  ⟨h.1.below hb h.1.lt, h.2.1.below hb h.2.1.lt, h.2.2.trans (hb.mono h.2.2.size)⟩
theorem zero_pair : (#[.int .i64 0, .int .i64 0] : Array Value) = cellsP (0, 0) := rfl
theorem req_out (a : Option Addr) (n cp : Nat) (p1 p2 : Int) (c : Nat → Int) (w : World) (h : inB (p1, p2) n = false) :
    Calls Try.prog 15 #[.slice a n cp, .int .i64 p1, .int .i64 p2, .agg (cellsOf c)] w fun e w' => e = .returned (.int .i64 7) ∧ Below w.heap.size w w' := by
  have HW := Lib.hid (within_any (p1, p2) n)
  have T := Lib.hid (ReqB.new w (p1, p2) c)
  rw [h] at HW
  clear h
  go_enter Try.func15, Try.ntmps15
  go_upto_region 2 with (first | (refine wpList_build rfl 61 _ rfl (by kernel_rfl) ?_; rw [show (Try.prog.built 61 _).getD #[] = cellsP (p1, p2) from by kernel_rfl]) | (refine wpList_store_row rfl _ _ _ rfl (w.heap.size + 1) (cellsP (p1, p2)) rfl rfl 61 _ (tri_two w _ _ _) infoM rfl (cellsP_one _) ?_; rw [setRow_alloc2]))
  generalize (w.alloc (.cells (cellsOf c) 26)).alloc (.cells (cellsP (p1, p2)) 61) = W at *
  go_wp2_with (first | (refine wpList_load_row rfl 61 _ rfl (w.heap.size + 1) rfl 61 _ (0, 0) _ T.out.2.1 Try.underlying61 rfl infoM ?_))
  refine (HW.out _).mono ?_
  rintro e w1 ⟨rfl, b1⟩
  have T1 := Lib.hid (T.out.next b1)
  clear b1 T HW
  go_wp2_with fail
  go_ret
  exact ⟨rfl, T1.out.2.2⟩
set_option maxHeartbeats 400000 in
theorem req_same (a : Option Addr) (n cp : Nat) (p1 p2 : Int) (c : Nat → Int) (w : World) (h : inB (p1, p2) n = true) (he : p1 = p2) :
    Calls Try.prog 15 #[.slice a n cp, .int .i64 p1, .int .i64 p2, .agg (cellsOf c)] w fun e w' => e = .returned (.int .i64 12) ∧ Below w.heap.size w w' := by
  have HW := Lib.hid (within_any (p1, p2) n)
  have T := Lib.hid (ReqB.new w (p1, p2) c)
  have HE : Hid (decide ((p1, p2) = (p2, p1)) = true) := Lib.hid (decide_eq_true (by rw [he]))
  rw [h] at HW
  clear h he
  go_enter Try.func15, Try.ntmps15
  go_upto_region 2 with (first | (refine wpList_build rfl 61 _ rfl (by kernel_rfl) ?_; rw [show (Try.prog.built 61 _).getD #[] = cellsP (p1, p2) from by kernel_rfl]) | (refine wpList_store_row rfl _ _ _ rfl (w.heap.size + 1) (cellsP (p1, p2)) rfl rfl 61 _ (tri_two w _ _ _) infoM rfl (cellsP_one _) ?_; rw [setRow_alloc2]))
  generalize (w.alloc (.cells (cellsOf c) 26)).alloc (.cells (cellsP (p1, p2)) 61) = W at *
  go_wp2_with (first | (refine wpList_load_row rfl 61 _ rfl (w.heap.size + 1) rfl 61 _ (0, 0) _ T.out.2.1 Try.underlying61 rfl infoM ?_))
  refine (HW.out _).mono ?_
  rintro e w1 ⟨rfl, b1⟩
  have T1 := Lib.hid (T.out.next b1)
  clear b1 T HW
  go_wp2_with fail
  refine wp_region_class (fun w' => Below w1.heap.size w1 w') (by kernel_rfl) (by kernel_rfl) (Below.refl _ _).drew ?_
  refine q_load 61 _ (w.heap.size + 1) 61 (cellsP (p1, p2)) _ rfl rfl rfl (fun w' h => T1.out.2.1.below h T1.out.2.1.lt) Try.underlying61 rfl infoM ?_
  simp only [Act.put, List.setIfInBounds_toArray, List.set_cons_zero, List.set_cons_succ]
  refine q_load 61 _ (w.heap.size + 1) 61 (cellsP (p1, p2)) _ rfl rfl rfl (fun w' h => T1.out.2.1.below h T1.out.2.1.lt) Try.underlying61 rfl infoM ?_
  simp only [Act.put, List.setIfInBounds_toArray, List.set_cons_zero, List.set_cons_succ]
  refine q_call (.agg (cellsP (p2, p1))) #[.agg (cellsP (p1, p2))] (by kernel_rfl) (by kernel_rfl) Try.call31 (fun w' h => (reversed_any (p1, p2) w').mono fun e w'' ⟨he, hb⟩ => ⟨he, h.trans (hb.mono h.size)⟩) ?_
  simp only [Act.put, List.setIfInBounds_toArray, List.set_cons_zero, List.set_cons_succ]
  refine q_val (.bool true) rfl (fun w => exec_eqp rfl rfl HE.out) ?_
  simp only [Act.put, List.setIfInBounds_toArray, List.set_cons_zero, List.set_cons_succ]
  refine wpQuiet_nil ?_
  intro w2 b2
  have T2 := Lib.hid (T1.out.next b2)
  clear b2 T1
  go_wp2
  go_ret
  exact ⟨rfl, T2.out.2.2⟩
set_option maxHeartbeats 800000 in
theorem req_chk (S : Nat → Prop) (a : Option Addr) (l : List Val) (cp i j : Nat) (s d : Val) (c : Nat → Int) (w : World) (hL : Lst w S a l) (hi : l[i]? = some s) (hj : l[j]? = some d) (hne : i ≠ j) (hs : FitsV s) (hd : FitsV d) :
    Calls Try.prog 15 #[.slice a l.length cp, .int .i64 i, .int .i64 j, .agg (cellsOf c)] w fun e w' => e = .returned (.int .i64 (chkM s d (c 6))) ∧ Below w.heap.size w w' := by
  have hil := (List.getElem?_eq_some_iff.1 hi).1
  have hjl := (List.getElem?_eq_some_iff.1 hj).1
  obtain ⟨p1, hp1⟩ : ∃ p1 : Int, (i : Int) = p1 := ⟨_, rfl⟩
  obtain ⟨p2, hp2⟩ : ∃ p2 : Int, (j : Int) = p2 := ⟨_, rfl⟩
  obtain ⟨n, hn⟩ : ∃ n, l.length = n := ⟨_, rfl⟩
  have h : inB ((i : Int), (j : Int)) n = true := decide_eq_true (by simp only; omega)
  have HE : Hid (decide (((i : Int), (j : Int)) = ((j : Int), (i : Int))) = false) := Lib.hid (decide_eq_false (by simp only [Prod.mk.injEq]; omega))
  rw [hp1, hp2] at h HE ⊢
  rw [hn] at hil hjl ⊢
  have HW := Lib.hid (within_any (p1, p2) n)
  have T := Lib.hid (ReqB.new w (p1, p2) c)
  rw [h] at HW
  have HC := Lib.hid (fun w => check_any s d c w hs hd)
  generalize chkM s d (c 6) = r at *
  obtain ⟨g, off, rfl, rs⟩ := hL.at hi
  obtain ⟨g', off', e', rd⟩ := hL.at hj
  injection e' with e'
  injection e' with e1 e2 e3
  subst e1 e2
  have hg : g < w.heap.size := by
    obtain ⟨b, o, e1, -, e2, -⟩ := hL (by omega)
    injection e1 with e1
    injection e1 with e1
    omega
  have RS := Lib.hid (And.intro rs (And.intro rd hg))
  have HP := Lib.hid (And.intro hp1 hp2)
  clear rs rd hL hi hj hs hd h e3 hn hp1 hp2
  go_enter Try.func15, Try.ntmps15
  go_upto_region 2 with (first | (refine wpList_build rfl 61 _ rfl (by kernel_rfl) ?_; rw [show (Try.prog.built 61 _).getD #[] = cellsP (p1, p2) from by kernel_rfl]) | (refine wpList_store_row rfl _ _ _ rfl (w.heap.size + 1) (cellsP (p1, p2)) rfl rfl 61 _ (tri_two w _ _ _) infoM rfl (cellsP_one _) ?_; rw [setRow_alloc2]))
  generalize (w.alloc (.cells (cellsOf c) 26)).alloc (.cells (cellsP (p1, p2)) 61) = W at *
  go_wp2_with (first | (refine wpList_load_row rfl 61 _ rfl (w.heap.size + 1) rfl 61 _ (0, 0) _ T.out.2.1 Try.underlying61 rfl infoM ?_))
  refine (HW.out _).mono ?_
  rintro e w1 ⟨rfl, b1⟩
  have T1 := Lib.hid (T.out.next b1)
  clear b1 T HW
  go_wp2_with fail
  refine wp_region_class (fun w' => Below w1.heap.size w1 w') (by kernel_rfl) (by kernel_rfl) (Below.refl _ _).drew ?_
  refine q_load 61 _ (w.heap.size + 1) 61 (cellsP (p1, p2)) _ rfl rfl rfl (fun w' h => T1.out.2.1.below h T1.out.2.1.lt) Try.underlying61 rfl infoM ?_
  simp only [Act.put, List.setIfInBounds_toArray, List.set_cons_zero, List.set_cons_succ]
  refine q_load 61 _ (w.heap.size + 1) 61 (cellsP (p1, p2)) _ rfl rfl rfl (fun w' h => T1.out.2.1.below h T1.out.2.1.lt) Try.underlying61 rfl infoM ?_
  simp only [Act.put, List.setIfInBounds_toArray, List.set_cons_zero, List.set_cons_succ]
  refine q_call (.agg (cellsP (p2, p1))) #[.agg (cellsP (p1, p2))] (by kernel_rfl) (by kernel_rfl) Try.call31 (fun w' h => (reversed_any (p1, p2) w').mono fun e w'' ⟨he, hb⟩ => ⟨he, h.trans (hb.mono h.size)⟩) ?_
  simp only [Act.put, List.setIfInBounds_toArray, List.set_cons_zero, List.set_cons_succ]
  refine q_val (.bool false) rfl (fun w => exec_eqp rfl rfl HE.out) ?_
  simp only [Act.put, List.setIfInBounds_toArray, List.set_cons_zero, List.set_cons_succ]
  refine wpQuiet_nil ?_
  intro w2 b2
  have T2 := Lib.hid (T1.out.next b2)
  clear b2 T1
  have RS2 : Hid (w2.rangeAt g (off + i * 7) s.row ∧ w2.rangeAt g (off + j * 7) d.row) := Lib.hid ⟨World.rangeAt.same RS.out.1 (T2.out.2.2.block g RS.out.2.2), World.rangeAt.same RS.out.2.1 (T2.out.2.2.block g RS.out.2.2)⟩
  obtain ⟨rfl, rfl⟩ := HP.out
  have g2 : g < w2.heap.size := Nat.lt_of_lt_of_le RS.out.2.2 T2.out.2.2.size
  have k1 : ¬ (i : Int) < 0 := by omega
  have k2 : ¬ (n : Int) ≤ (i : Int) := by omega
  have k3 : (i : Int) < (n : Int) := by omega
  have m1 : ¬ (j : Int) < 0 := by omega
  have m2 : ¬ (n : Int) ≤ (j : Int) := by omega
  have m3 : (j : Int) < (n : Int) := by omega
  go_wp2
  refine wp_region_class (fun w' => Below w2.heap.size w2 w') (by kernel_rfl) (by kernel_rfl) (Below.refl _ _).drew ?_
  iterate 3 (go_big_quiet_step ((intros; rfl)))
  refine q_load_val 24 _ g (off + i * 7) s _ rfl rfl rfl (fun w' h => World.rangeAt.same RS2.out.1 (h.block g g2)) Try.underlying24 rfl infoV ?_
  simp only [Act.put, List.setIfInBounds_toArray, List.set_cons_zero, List.set_cons_succ]
  iterate 3 (go_big_quiet_step ((intros; rfl)))
  refine q_load_val 24 _ g (off + j * 7) d _ rfl rfl rfl (fun w' h => World.rangeAt.same RS2.out.2 (h.block g g2)) Try.underlying24 rfl infoV ?_
  simp only [Act.put, List.setIfInBounds_toArray, List.set_cons_zero, List.set_cons_succ]
  refine q_load 26 _ w.heap.size 26 (cellsOf c) _ rfl rfl rfl (fun w' h => T2.out.1.below h T2.out.1.lt) Try.underlying26 rfl info24 ?_
  simp only [Act.put, List.setIfInBounds_toArray, List.set_cons_zero, List.set_cons_succ]
  refine q_call (.int .i64 r) #[.agg (cellsV s), .agg (cellsV d), .agg (cellsOf c)] (by kernel_rfl) (by kernel_rfl) Try.call11 (fun w' h => (HC.out w').mono fun e w'' ⟨he, hb⟩ => ⟨he, h.trans (hb.mono h.size)⟩) ?_
  simp only [Act.put, List.setIfInBounds_toArray, List.set_cons_zero, List.set_cons_succ]
  go_big_quiet_step ((intros; rfl))
  refine wpQuiet_nil ?_
  intro w3 b3
  have B3 := Lib.hid (T2.out.2.2.trans (b3.mono T2.out.2.2.size))
  go_wp2
  go_ret
  exact ⟨rfl, B3.out⟩
theorem request_any (S : Nat → Prop) (a : Option Addr) (l : List Val) (cp : Nat) (p : Int × Int) (c : Nat → Int) (w : World) (hL : Lst w S a l) (hf : ∀ v ∈ l, FitsV v) :
    Calls Try.prog 15 #[.slice a l.length cp, .int .i64 p.1, .int .i64 p.2, .agg (cellsOf c)] w fun e w' => e = .returned (.int .i64 (reqM l p (c 6))) ∧ Below w.heap.size w w' := by
  obtain ⟨p1, p2⟩ := p
  by_cases h : 0 ≤ p1 ∧ 0 ≤ p2 ∧ p1 < l.length ∧ p2 < l.length
  · obtain ⟨i, rfl⟩ := Int.eq_ofNat_of_zero_le h.1
    obtain ⟨j, rfl⟩ := Int.eq_ofNat_of_zero_le h.2.1
    obtain ⟨s, hs⟩ : ∃ s, l[i]? = some s := ⟨_, List.getElem?_eq_getElem (by omega)⟩
    obtain ⟨d, hd⟩ : ∃ d, l[j]? = some d := ⟨_, List.getElem?_eq_getElem (by omega)⟩
    rw [req_at (c 6) hs hd]
    by_cases he : i = j
    · rw [if_pos he]
      exact req_same a l.length cp i j c w (decide_eq_true h) (by omega)
    · rw [if_neg he]
      exact req_chk S a l cp i j s d c w hL hs hd he (hf s (List.mem_of_getElem? hs)) (hf d (List.mem_of_getElem? hd))
  · have e : reqM l (p1, p2) (c 6) = 7 := by
      unfold reqM
      rw [if_pos (by simp only; omega)]
    rw [e]
    exact req_out a l.length cp p1 p2 c w (decide_eq_false h)
end Go.Proofs.Ytnaheindlkehhaa
