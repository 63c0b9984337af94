/- The makers of changes; rows of changes; settle; Amount and the reference's. -/
import Derived.Test.YtfcjgllljejfcaaDoes
import Derived.Test.YtfcjgllljejfcaaRefMul
import Derived.Test.YtfcjgllljejfcaaBuild
namespace Go.Proofs.Ytfcjgllljejfcaa
open Go Go.RowKit
set_option linter.unusedVariables false
set_option linter.unusedSimpArgs false
set_option maxRecDepth 100000

section
variable {w : World}
theorem results_cell_row3 {P : Program} {fn : Func} {p u q : Tmp} {ty : TypeId} (h : fn.results = #[.cell p ty, .tmp u, .tmp q]) (tmps : Array Value) (w : World) (g : Nat) (t : TypeId) (cs : Array Value) (fr : Nat × Nat) (d : TypeDesc)
    (hp : tmps.getD p undef = .pointer (some ⟨g, 0, none⟩)) (hg : w.heap[g]? = some (.cells cs t fr))
    (hu : P.underlying ty = some d) (hd : (match d with | .struct _ | .array _ _ => true | _ => false) = true) (hi : (P.info? ty).map (·.size) = some cs.size) :
    (results fn tmps).run P w = .ok (.tuple #[.agg cs, tmps.getD u undef, tmps.getD q undef]) w := by
  have e : (results fn tmps).run P w = ((asAddr (tmps.getD p undef)).run P w).andThen fun a w₁ => ((loadVar ty a).run P w₁).andThen fun v w₂ => .ok (.tuple #[v, tmps.getD u undef, tmps.getD q undef]) w₂ := by
    simp only [results, h]
    simp [Sem.run_bind, Result.andThen]
  rw [e, hp]
  simp [asAddr, run_loadVar_row w g t ty cs fr d hg hu hd hi, Result.andThen]
theorem makes_of (fn : Fn) (first cap : Array Value) (w : World) : (Instr.makeFunc fn first cap).run Try.prog w = .ok (.func fn first cap) w := rfl
theorem request_any (e : Int) (w : World) : Calls Try.prog 26 #[.int .i64 e] w fun o w' => ∃ c, o = .returned (.func (.func 41) #[] c) ∧ FDoes w' (.func (.func 41) #[] c) (requestE e) ∧ Below w.heap.size w w' := by
  have hmf := makes_of
  have HN := Lib.hid (request_does (e := e) ((Blk.new w 3 #[.int .i64 e]).cell 0))
  go_enter Try.func26, Try.ntmps26
  go_wp2
  go_ret
  exact ⟨_, rfl, HN.out, (Below.refl _ _).alloc (Nat.le_refl _) _⟩
theorem pass_any (ev : Int) (he : (Lit.int .i64 ev).wf = true) (w : World) : Calls Try.prog 27 #[.int .i64 ev] w fun o w' => ∃ c, o = .returned (.func (.func 43) #[] c) ∧ FDoes w' (.func (.func 43) #[] c) (passE ev) ∧ Below w.heap.size w w' := by
  have hmf := makes_of
  have HN := Lib.hid (pass_does (ev := ev) he ((Blk.new w 3 #[.int .i64 ev]).cell 0))
  clear he
  go_enter Try.func27, Try.ntmps27
  go_wp2
  go_ret
  exact ⟨_, rfl, HN.out, (Below.refl _ _).alloc (Nat.le_refl _) _⟩
theorem schedule_any (e : Int) (w : World) : Calls Try.prog 28 #[.int .i64 e] w fun o w' => ∃ c, o = .returned (.func (.func 45) #[] c) ∧ FDoes w' (.func (.func 45) #[] c) (scheduleE e) ∧ Below w.heap.size w w' := by
  have hmf := makes_of
  have HN := Lib.hid (schedule_does (e := e) ((Blk.new w 3 #[.int .i64 e]).cell 0))
  go_enter Try.func28, Try.ntmps28
  go_wp2
  go_ret
  exact ⟨_, rfl, HN.out, (Below.refl _ _).alloc (Nat.le_refl _) _⟩
theorem ripe_any (e : Int) (w : World) : Calls Try.prog 35 #[.int .i64 e] w fun o w' => ∃ c, o = .returned (.func (.func 49) #[] c) ∧ FDoes w' (.func (.func 49) #[] c) (ripeE e) ∧ Below w.heap.size w w' := by
  have hmf := makes_of
  have HN := Lib.hid (ripe_does (e := e) ((Blk.new w 3 #[.int .i64 e]).cell 0))
  go_enter Try.func35, Try.ntmps35
  go_wp2
  go_ret
  exact ⟨_, rfl, HN.out, (Below.refl _ _).alloc (Nat.le_refl _) _⟩
theorem hold_any (e n : Int) (h0 : 0 ≤ n) (h1 : n ≤ 9223372036854775807) (w : World) : Calls Try.prog 29 #[.int .i64 e, .int .i64 n] w fun o w' => ∃ c, o = .returned (.func (.func 46) #[] c) ∧ FDoes w' (.func (.func 46) #[] c) (holdE e n) ∧ Below w.heap.size w w' := by
  have hmf := makes_of
  have c1 : ((w.alloc (.cells #[.int .i64 e] 3)).alloc (.cells #[.int .i64 n] 3)).cell? ⟨w.heap.size, 0, none⟩ = some (.int .i64 e) := ((Blk.new w 3 #[.int .i64 e]).alloc _).cell 0
  have c2 : ((w.alloc (.cells #[.int .i64 e] 3)).alloc (.cells #[.int .i64 n] 3)).cell? ⟨w.heap.size + 1, 0, none⟩ = some (.int .i64 n) := by
    have := (Blk.new (w.alloc (.cells #[.int .i64 e] 3)) 3 #[.int .i64 n]).cell 0
    rwa [show (w.alloc (.cells #[.int .i64 e] 3)).heap.size = w.heap.size + 1 by simp] at this
  have HN := Lib.hid (hold_does h0 h1 c1 c2)
  clear h0 h1 c1 c2
  go_enter Try.func29, Try.ntmps29
  go_wp2
  go_ret
  exact ⟨_, rfl, HN.out, ((Below.refl _ _).alloc (Nat.le_refl _) _).alloc (by simp) _⟩
end

theorem fdoes_cells {w : World} {f : Value} {e : Eff} (h : FDoes w f e) : f.cells = #[f] := by
  obtain ⟨F, caps, rfl, _⟩ := h
  rfl
theorem change_info : (Try.prog.info? 54).map (fun i => (i.zero, i.size)) = some (some (.nilFunc), 1) := by kernel_rfl
theorem changes_two {w : World} {g t : Nat} {f1 f2 : Value} {e1 e2 : Eff} (h : Blk w g t #[f1, f2]) (h1 : FDoes w f1 e1) (h2 : FDoes w f2 e2) : Changes w (some ⟨g, 0, none⟩) [e1, e2] := by
  refine ⟨g, 0, rfl, fun i e hi => ?_⟩
  match i, hi with
  | 0, hi => exact ⟨f1, by rw [Nat.zero_add]; exact h.cell 0, by simp at hi; subst hi; exact h1⟩
  | 1, hi => exact ⟨f2, by rw [Nat.zero_add]; exact h.cell 1, by simp at hi; subst hi; exact h2⟩
theorem changes_three {w : World} {g t : Nat} {f1 f2 f3 : Value} {e1 e2 e3 : Eff} (h : Blk w g t #[f1, f2, f3]) (h1 : FDoes w f1 e1) (h2 : FDoes w f2 e2) (h3 : FDoes w f3 e3) : Changes w (some ⟨g, 0, none⟩) [e1, e2, e3] := by
  refine ⟨g, 0, rfl, fun i e hi => ?_⟩
  match i, hi with
  | 0, hi => exact ⟨f1, by rw [Nat.zero_add]; exact h.cell 0, by simp at hi; subst hi; exact h1⟩
  | 1, hi => exact ⟨f2, by rw [Nat.zero_add]; exact h.cell 1, by simp at hi; subst hi; exact h2⟩
  | 2, hi => exact ⟨f3, by rw [Nat.zero_add]; exact h.cell 2, by simp at hi; subst hi; exact h3⟩
theorem runE_err : ∀ (es : List Eff) (x : Val), (runE es x).1 ≠ 0 → (runE es x).2 = val0
  | [], x, h => absurd rfl h
  | e :: es, x, h => by
    unfold runE at h ⊢
    split at h
    · rename_i h0
      rw [if_pos h0]
      exact runE_err es _ h
    · rename_i h0
      rw [if_neg h0]

theorem zero_cells : (#[.int .u64 0, .int .i64 0, .bool false, .int .i64 0, .int .i64 0, .int .i64 0, .int .i64 0] : Array Value) = cellsV val0 := rfl
/-- What settle answers. -/
def settleV (es : List Eff) (n : Int) (v : Val) : Value :=
  .tuple #[.agg (cellsV (runE es { v with bal := v.bal - n }).2), .int .u64 (if (runE es { v with bal := v.bal - n }).1 = 0 then n else 0), .int .i64 (runE es { v with bal := v.bal - n }).1]
set_option maxHeartbeats 1600000 in
theorem settle_any (es : List Eff) (a : Option Addr) (cap : Nat) (n : Int) (v : Val) (w : World) (hv : StOk v) (h0 : 0 ≤ n) (h1 : n ≤ v.bal) (h2 : v.bal ≤ 18446744073709551615) (hlen : es.length ≤ 1000) (hc : Changes w a es) :
    Calls Try.prog 34 #[.agg (cellsV v), .int .u64 n, .slice a es.length cap] w fun o w' => o = .returned (settleV es n v) ∧ Below w.heap.size w w' := by
  obtain ⟨y, hy⟩ : ∃ y : Val, y = { v with bal := v.bal - n } := ⟨_, rfl⟩
  have HR : Hid (settleV es n v = .tuple #[.agg (cellsV (runE es y).2), .int .u64 (if (runE es y).1 = 0 then n else 0), .int .i64 (runE es y).1]) := Lib.hid (by rw [hy]; rfl)
  have HS : Hid (StOk y) := Lib.hid (by rw [hy]; exact hv)
  have HC := Lib.hid hc
  have HL := Lib.hid hlen
  have hb : v.bal - n ≤ 18446744073709551615 := by omega
  obtain ⟨z, hz⟩ : ∃ z, z = v.bal - n := ⟨_, rfl⟩
  have HY : Hid (y = { v with bal := z }) := Lib.hid (by rw [hy, hz])
  have hw : IntKind.u64.wrap (v.bal - n) = z := by rw [hz]; exact IntWalk.u64_in _ (by omega)
  obtain ⟨len, hl⟩ : ∃ len, es.length = len := ⟨_, rfl⟩
  rw [hl]
  have HLN := Lib.hid hl
  clear hc hv hl hlen hy hz
  have W0 : Hid (VB ((w.alloc (.cells (cellsV v) 28)).alloc (.cells (cellsV val0) 28)) w.heap.size v) := Lib.hid (Blk.alloc (Blk.new w _ _) _)
  have F0 := W0.out.fz 0
  have c0 : ((w.alloc (.cells (cellsV v) 28)).alloc (.cells (cellsV val0) 28)).cell? ⟨w.heap.size, 0, none⟩ = some (.int .u64 v.bal) := Blk.cell W0.out 0
  have Z0 : Hid (VB ((w.alloc (.cells (cellsV v) 28)).alloc (.cells (cellsV val0) 28)) (w.heap.size + 1) val0) := Lib.hid (by
    have := Blk.new (w.alloc (.cells (cellsV v) 28)) 28 (cellsV val0)
    rw [show (w.alloc (.cells (cellsV v) 28)).heap.size = w.heap.size + 1 by simp] at this
    exact this)
  have B0 : Hid (Below w.heap.size w ((w.alloc (.cells (cellsV v) 28)).alloc (.cells (cellsV val0) 28))) := Lib.hid (((Below.refl _ _).alloc (Nat.le_refl _) _).alloc (by simp) _)
  go_enter Try.func34, Try.ntmps34
  go_upto_region 1 with (fail)
  rw [zero_cells]
  generalize (w.alloc (.cells (cellsV v) 28)).alloc (.cells (cellsV val0) 28) = W at *
  go_upto_region 2 with (fail)
  have W1 : Hid (VB (W.setCell ⟨w.heap.size, 0, none⟩ (.int .u64 z)) w.heap.size y) := Lib.hid (by rw [HY.out]; exact W0.out.set rfl)
  have Z1 : Hid (VB (W.setCell ⟨w.heap.size, 0, none⟩ (.int .u64 z)) (w.heap.size + 1) val0) := Lib.hid (Blk.far Z0.out (by simp) _)
  have B1 : Hid (Below w.heap.size w (W.setCell ⟨w.heap.size, 0, none⟩ (.int .u64 z))) := Lib.hid (below_only B0.out (only_setCell (only_refl _ _) (.inl rfl) _) B0.out.size (Nat.le_refl _))
  have C1 : Hid (Changes (W.setCell ⟨w.heap.size, 0, none⟩ (.int .u64 z)) a es) := Lib.hid (HC.out.below B1.out)
  clear W0 Z0 B0 F0 c0 hw
  generalize W.setCell ⟨w.heap.size, 0, none⟩ (.int .u64 z) = W at *
  have HA := Lib.hid (apply_any es a cap y W HS.out HL.out C1.out)
  rw [HLN.out] at HA
  have HE := Lib.hid (runE_err es y)
  generalize hr : runE es y = r at HA HR HE
  obtain ⟨cd, x⟩ := r
  simp only at HA HR HE
  clear hr
  by_cases h : cd = 0
  · have hc0 : (cd != 0) = false := by simpa using h
    rw [if_pos h] at HR
    subst h
    go_wp2_with (first | (refine wpList_load_row rfl 28 _ rfl w.heap.size rfl 28 _ (0, 0) _ W1.out Try.underlying28 rfl infoV ?_) | fail)
    refine HA.out.mono ?_
    rintro o w2 ⟨rfl, b2⟩
    have Z2 : Hid (VB (w2.alloc (.cells (cellsV x) 28)) (w.heap.size + 1) val0) := Lib.hid (Blk.alloc (Blk.below Z1.out b2 Z1.out.lt) _)
    have X2 : Hid (VB (w2.alloc (.cells (cellsV x) 28)) w2.heap.size x) := Lib.hid (Blk.new _ _ _)
    have B2 : Hid (Below w.heap.size w (w2.alloc (.cells (cellsV x) 28))) := Lib.hid ((B1.out.trans (b2.mono B1.out.size)).alloc (Nat.le_trans B1.out.size b2.size) _)
    clear b2 Z1 W1 B1 C1 HA
    go_wp2_with (first | (refine wpList_store_row rfl _ _ _ rfl w2.heap.size (cellsV x) rfl rfl 28 _ (heap_alloc_new w2 _) infoV rfl (cellsV_one x) ?_; rw [World.setRow_alloc_new]) | (refine wpList_load_row rfl 28 _ rfl w2.heap.size rfl 28 _ (0, 0) _ X2.out Try.underlying28 rfl infoV ?_) | (refine wpList_store_row rfl _ _ _ rfl (w.heap.size + 1) (cellsV x) rfl rfl 28 _ Z2.out infoV rfl (cellsV_one x) ?_))
    rw [HR.out]
    exact bodyPost_ret (v := .tuple #[.agg (cellsV x), .int .u64 n, .int .i64 0]) (results_cell_row3 (fn := Try.f34) rfl _ _ (w.heap.size + 1) 28 _ (0, 0) _ rfl (setRow_heap _ _ _ _ _ _ Z2.out) Try.underlying28 rfl infoV) rfl ⟨rfl, below_setRow B2.out (by omega) _⟩
  · have hc0 : (cd != 0) = true := by simpa using h
    rw [if_neg h] at HR
    have hx : x = val0 := HE.out h
    subst hx
    clear h
    go_wp2_with (first | (refine wpList_load_row rfl 28 _ rfl w.heap.size rfl 28 _ (0, 0) _ W1.out Try.underlying28 rfl infoV ?_) | fail)
    refine HA.out.mono ?_
    rintro o w2 ⟨rfl, b2⟩
    have Z2 : Hid (VB (w2.alloc (.cells (cellsV val0) 28)) (w.heap.size + 1) val0) := Lib.hid (Blk.alloc (Blk.below Z1.out b2 Z1.out.lt) _)
    have B2 : Hid (Below w.heap.size w (w2.alloc (.cells (cellsV val0) 28))) := Lib.hid ((B1.out.trans (b2.mono B1.out.size)).alloc (Nat.le_trans B1.out.size b2.size) _)
    clear b2 Z1 W1 B1 C1 HA
    go_wp2_with (first | (refine wpList_build_val rfl 28 _ rfl val0 (by kernel_rfl) ?_) | (refine wpList_store_row rfl _ _ _ rfl w2.heap.size (cellsV val0) rfl rfl 28 _ (heap_alloc_new w2 _) infoV rfl (cellsV_one val0) ?_; rw [World.setRow_alloc_new]) | (refine wpList_store_row rfl _ _ _ rfl (w.heap.size + 1) (cellsV val0) rfl rfl 28 _ Z2.out infoV rfl (cellsV_one val0) ?_))
    rw [HR.out]
    exact bodyPost_ret (v := .tuple #[.agg (cellsV val0), .int .u64 0, .int .i64 cd]) (results_cell_row3 (fn := Try.f34) rfl _ _ (w.heap.size + 1) 28 _ (0, 0) _ rfl (setRow_heap _ _ _ _ _ _ Z2.out) Try.underlying28 rfl infoV) rfl ⟨rfl, below_setRow B2.out (by omega) _⟩

/-- The penalty. -/
def amQ (a n d : Nat) : Nat := if d < n then 0 else mdQ a n d
def amOk (a n d : Nat) : Bool := if d < n then false else mdOk a n d
theorem amQ_le (a n d : Nat) : amQ a n d ≤ a := by
  unfold amQ
  split
  · omega
  · unfold mdQ
    split
    · rename_i h1 h2
      have h3 : n ≤ d := by omega
      calc a * n / d ≤ a * d / d := Nat.div_le_div_right (Nat.mul_le_mul_left a h3)
        _ = a := Nat.mul_div_cancel a (by omega)
    · omega
theorem amount_any (a n d : Nat) (w : World) (ha : a < 18446744073709551616) (hn : n < 18446744073709551616) (hd : d < 18446744073709551616) :
    Calls Try.prog 9 #[.int .u64 a, .int .u64 n, .int .u64 d] w fun o w' => o = .returned (.tuple #[.int .u64 (amQ a n d : Nat), .bool (amOk a n d)]) ∧ Below w.heap.size w w' := by
  have HM := Lib.hid (fun w => muldiv_any a n d w ha hn hd)
  by_cases h : d < n
  · have HQ : Hid (amQ a n d = 0 ∧ amOk a n d = false) := Lib.hid ⟨if_pos h, if_pos h⟩
    rw [HQ.out.1, HQ.out.2]
    have h' : (d : Int) < (n : Int) := by omega
    clear h ha hn hd HM
    go_enter Try.func9, Try.ntmps9
    go_wp2
    go_ret2
    exact ⟨rfl, Below.refl _ _⟩
  · have HQ : Hid (amQ a n d = mdQ a n d ∧ amOk a n d = mdOk a n d) := Lib.hid ⟨if_neg h, if_neg h⟩
    rw [HQ.out.1, HQ.out.2]
    have h' : ¬ (d : Int) < (n : Int) := by omega
    generalize mdQ a n d = q at *
    generalize mdOk a n d = ok at *
    clear h ha hn hd HQ
    go_enter Try.func9, Try.ntmps9
    go_wp2_with fail
    refine (HM.out _).mono ?_
    rintro o w1 ⟨rfl, b1⟩
    have B1 := Lib.hid b1
    clear b1
    go_wp2
    go_ret2
    exact ⟨rfl, B1.out⟩
theorem refamount_any (a n d : Nat) (w : World) (ha : a < 18446744073709551616) (hn : n < 18446744073709551616) (hd : d < 18446744073709551616) :
    Calls Try.prog 10 #[.int .u64 a, .int .u64 n, .int .u64 d] w fun o w' => o = .returned (.tuple #[.int .u64 (amQ a n d : Nat), .bool (amOk a n d)]) ∧ w = w' := by
  have HM := Lib.hid (fun w => refmuldiv_any a n d w ha hn hd)
  by_cases h0 : d = 0
  · have HQ : Hid (amQ a n d = 0 ∧ amOk a n d = false) := Lib.hid (by
      unfold amQ amOk
      subst h0
      have := md_no (a := a) (b := n) (d := 0) (by omega)
      split
      · exact ⟨rfl, rfl⟩
      · exact ⟨this.2, this.1⟩)
    rw [HQ.out.1, HQ.out.2]
    have h' : ((d : Int) == 0) = true := by simp; omega
    clear h0 ha hn hd HM
    go_enter Try.func10, Try.ntmps10
    go_wp2
    go_ret2
    exact ⟨rfl, rfl⟩
  · have h' : ((d : Int) == 0) = false := by simp; omega
    by_cases h : d < n
    · have HQ : Hid (amQ a n d = 0 ∧ amOk a n d = false) := Lib.hid ⟨if_pos h, if_pos h⟩
      rw [HQ.out.1, HQ.out.2]
      have h'' : decide (d < n) = true := by simpa using h
      clear h h0 ha hn hd HM
      go_enter Try.func10, Try.ntmps10
      go_wp2
      go_ret2
      exact ⟨rfl, rfl⟩
    · have HQ : Hid (amQ a n d = mdQ a n d ∧ amOk a n d = mdOk a n d) := Lib.hid ⟨if_neg h, if_neg h⟩
      rw [HQ.out.1, HQ.out.2]
      have h'' : decide (d < n) = false := by simpa using h
      generalize mdQ a n d = q at *
      generalize mdOk a n d = ok at *
      clear h h0 ha hn hd HQ
      go_enter Try.func10, Try.ntmps10
      go_wp2_with fail
      refine (HM.out _).mono ?_
      rintro o w1 ⟨rfl, rfl⟩
      go_wp2
      go_ret2
      exact ⟨rfl, rfl⟩
end Go.Proofs.Ytfcjgllljejfcaa
