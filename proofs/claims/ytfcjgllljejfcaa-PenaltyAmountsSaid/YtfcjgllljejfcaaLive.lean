/- Slash for valid configurations, by the program and by the reference; the chapter's example. -/
import Derived.Test.YtfcjgllljejfcaaRefS
import Derived.Test.YtfcjgllljejfcaaRefCheck
namespace Go.Proofs.Ytfcjgllljejfcaa
open Go Go.RowKit
set_option linter.unusedVariables false
set_option linter.unusedSimpArgs false
set_option maxRecDepth 100000

/-- What a slashing needs of a configuration. -/
structure GoodC (c : Nat → Int) : Prop where
  ub0 : 0 ≤ c 10
  ub1 : c 10 ≤ 1048576
  sd0 : 0 ≤ c 11
  sd1 : c 11 ≤ 1048576
  num0 : 0 ≤ c 18
  num1 : c 18 ≤ c 19
  den0 : 1 ≤ c 19
  den1 : c 19 ≤ 4294967296
theorem btw_spec {v lo hi : Int} (h : btw v lo hi = true) : lo ≤ v ∧ v ≤ hi := by unfold btw at h; simpa using h
theorem good_of_chk {c : Nat → Int} (hf : Fits c) (h : chk c = 0) : GoodC c := by
  rcases chk_cases c with ⟨_, hb⟩ | ⟨k, _, _, _, e⟩
  · have h10 := btw_spec (hb 10 (by omega))
    have h11 : decide (c 10 < c 11 ∧ c 11 ≤ 1048576) = true := hb 11 (by omega)
    have h18 : decide (c 18 ≤ c 19) = true := hb 18 (by omega)
    have h19 := btw_spec (hb 19 (by omega))
    have f18 : (Lit.int .u64 (c 18)).wf = true := hf 18 (by omega)
    simp at h11 h18
    exact ⟨by omega, h10.2, by omega, h11.2, (bounds_u64 f18).1, h18, h19.1, h19.2⟩
  · omega
/-- The penalty of a validator. -/
def penQ (v : Val) (c : Nat → Int) : Int := (amQ v.bal.toNat (c 18).toNat (c 19).toNat : Nat)
def penOk (v : Val) (c : Nat → Int) : Bool := amOk v.bal.toNat (c 18).toNat (c 19).toNat
theorem pen_bound {v : Val} (c : Nat → Int) (hv : FitsV v) : 0 ≤ penQ v c ∧ penQ v c ≤ v.bal := by
  have := amQ_le v.bal.toNat (c 18).toNat (c 19).toNat
  have h := hv.bal
  unfold penQ
  omega
theorem pen_calls {v : Val} {c : Nat → Int} (hv : FitsV v) (hc : GoodC c) (w : World) :
    Calls Try.prog 9 #[.int .u64 v.bal, .int .u64 (c 18), .int .u64 (c 19)] w fun o w' => o = .returned (.tuple #[.int .u64 (penQ v c), .bool (penOk v c)]) ∧ Below w.heap.size w w' := by
  have h := amount_any v.bal.toNat (c 18).toNat (c 19).toNat w (by have := hv.bal; omega) (by have := hc.num1; have := hc.den1; omega) (by have := hc.den1; omega)
  rw [Int.toNat_of_nonneg hv.bal.1, Int.toNat_of_nonneg hc.num0, Int.toNat_of_nonneg (show 0 ≤ c 19 by have := hc.den0; omega)] at h
  exact h
theorem refpen_calls {v : Val} {c : Nat → Int} (hv : FitsV v) (hc : GoodC c) (w : World) :
    Calls Try.prog 10 #[.int .u64 v.bal, .int .u64 (c 18), .int .u64 (c 19)] w fun o w' => o = .returned (.tuple #[.int .u64 (penQ v c), .bool (penOk v c)]) ∧ w = w' := by
  have h := refamount_any v.bal.toNat (c 18).toNat (c 19).toNat w (by have := hv.bal; omega) (by have := hc.num1; have := hc.den1; omega) (by have := hc.den1; omega)
  rw [Int.toNat_of_nonneg hv.bal.1, Int.toNat_of_nonneg hc.num0, Int.toNat_of_nonneg (show 0 ≤ c 19 by have := hc.den0; omega)] at h
  exact h
/-- What a slashing makes: a code and the validator, and the penalty. -/
def slR (v : Val) (e : Int) (c : Nat → Int) : Int × Val := runE (slashL v e (c 11)) { v with bal := v.bal - penQ v c }
def slN (v : Val) (e : Int) (c : Nat → Int) : Int := if (slR v e c).1 = 0 then penQ v c else 0
theorem slash_any {v : Val} (e : Int) {c : Nat → Int} (w : World) (hv : FitsV v) (hc : GoodC c) :
    Calls Try.prog 17 #[.agg (cellsV v), .int .i64 e, .agg (cellsOf c)] w fun o w' => o = .returned (ans3 (slR v e c) (slN v e c)) ∧ Below w.heap.size w w' := by
  obtain ⟨p0, p1⟩ := pen_bound c hv
  by_cases h : v.st = 2
  · have := slash_active v e (penQ v c) (penOk v c) c w hv.2 hc.sd0 hc.sd1 p0 p1 hv.bal.2 (by simpa using h) (pen_calls hv hc)
    rwa [show ([markE, passE 7, holdE e (c 11), requestE e] : List Eff) = slashL v e (c 11) from (if_pos h).symm] at this
  · have := slash_other v e (penQ v c) (penOk v c) c w hv.2 hc.sd0 hc.sd1 p0 p1 hv.bal.2 (by simpa using h) (pen_calls hv hc)
    rwa [show ([markE, passE 7, holdE e (c 11)] : List Eff) = slashL v e (c 11) from (if_neg h).symm] at this
theorem refslash_good {v : Val} (e : Int) {c : Nat → Int} (w : World) (hv : FitsV v) (hc : GoodC c) :
    Calls Try.prog 18 #[.agg (cellsV v), .int .i64 e, .agg (cellsOf c)] w fun o w' => o = .returned (ans3 (slR v e c) (slN v e c)) ∧ Below w.heap.size w w' :=
  refslash_any v e (penQ v c) (penOk v c) c w hv.2 hc.sd0 hc.sd1 (pen_bound c hv).1 (pen_bound c hv).2 hv.bal.2 (refpen_calls hv hc)

def dflt : Nat → Int
  | 0 => 16
  | 1 => 8
  | 2 => 16
  | 3 => 64
  | 4 => 1024
  | 5 => 8
  | 6 => 128
  | 7 => 32
  | 8 => 4
  | 9 => 64
  | 10 => 2
  | 11 => 5
  | 12 => 4
  | 13 => 4
  | 14 => 6
  | 15 => 4
  | 16 => 2
  | 17 => 2
  | 18 => 1
  | 19 => 4
  | _ => 0
theorem dflt_chk : chk dflt = 0 := by decide +kernel
theorem cells_one (c : Nat → Int) : (cellsOf c).all (·.oneCell') = true := by kernel_rfl
theorem default_any (w : World) : Calls Try.prog 23 #[] w fun e w' => e = .returned (.agg (cellsOf dflt)) ∧ Below w.heap.size w w' := by
  go_enter Try.func23, Try.ntmps23
  go_wp2_with (first | (refine wpList_build rfl 30 _ rfl (by kernel_rfl) ?_; rw [show (Try.prog.built 30 _).getD #[] = cellsOf dflt from by kernel_rfl]) | (refine wpList_store_row rfl _ _ _ rfl w.heap.size (cellsOf dflt) rfl rfl 30 _ (heap_alloc_new w _) info24 rfl (cells_one _) ?_; rw [World.setRow_alloc_new]))
  exact bodyPost_ret (v := .agg (cellsOf dflt)) (results_cell_row (fn := Try.f23) rfl _ _ w.heap.size 30 (cellsOf dflt) (0, 0) _ rfl (heap_alloc_new w _) Try.underlying30 rfl info24) rfl ⟨rfl, (Below.refl _ _).alloc (Nat.le_refl _) _⟩
theorem dflt_fits : Fits dflt := by
  intro k hk
  have : k = 0 ∨ k = 1 ∨ k = 2 ∨ k = 3 ∨ k = 4 ∨ k = 5 ∨ k = 6 ∨ k = 7 ∨ k = 8 ∨ k = 9 ∨ k = 10 ∨ k = 11 ∨ k = 12 ∨ k = 13 ∨ k = 14 ∨ k = 15 ∨ k = 16 ∨ k = 17 ∨ k = 18 ∨ k = 19 := by omega
  rcases this with h | h | h | h | h | h | h | h | h | h | h | h | h | h | h | h | h | h | h | h <;> subst h <;> decide
def ex0 : Val := ⟨50, 2, false, -1, -1, -1, -1⟩
def ex1 : Val := ⟨38, 3, true, 3, -1, 8, -1⟩
theorem ex_slash : slR ex0 3 dflt = (0, ex1) ∧ slN ex0 3 dflt = 12 := by decide +kernel
theorem ex_calls (w : World) : Calls Try.prog 17 #[.agg (cellsV ex0), .int .i64 3, .agg (cellsOf dflt)] w fun o w' => o = .returned (.tuple #[.agg (cellsV ex1), .int .u64 12, .int .i64 0]) ∧ Below w.heap.size w w' := by
  have h := slash_any (v := ex0) 3 w ⟨by decide, by decide⟩ (good_of_chk dflt_fits dflt_chk)
  rw [ex_slash.1, ex_slash.2] at h
  exact h
theorem wpList_valG_val {P : Program} {ops : Array Oper} {rest : List Oper} {o : Oper} {a : Act} {w : World} {Q : Exit → Act → World → Prop} (x : Val) (hw : Region.wanted o (yielded ops a.tmps) = true) (hv : (execOp a.eval o).run P w = .ok (.value (.agg (cellsV x))) w) (h : wpList P ops Q rest (a.put o.dst (.agg (cellsV x))) w) : wpList P ops Q (o :: rest) a w :=
  wpList_valG _ hw hv h
theorem alive_any (w : World) : Calls Try.prog 11 #[] w fun e w' => e = .returned (.bool true) ∧ Below w.heap.size w w' := by
  have heq := fun w => same_val ex1 w
  go_enter Try.func11, Try.ntmps11
  go_wp2_with (first | (refine wpList_build_val rfl 28 _ rfl ex0 (by kernel_rfl) ?_))
  refine (default_any _).mono ?_
  rintro o w1 ⟨rfl, b1⟩
  go_wp2_with fail
  refine (ex_calls _).mono ?_
  rintro o w2 ⟨rfl, b2⟩
  have X2 : Hid (VB (w2.alloc (.cells (cellsV ex1) 28)) w2.heap.size ex1) := Lib.hid (Blk.new _ _ _)
  have B2 : Hid (Below w.heap.size w (w2.alloc (.cells (cellsV ex1) 28))) := Lib.hid ((b1.trans (b2.mono b1.size)).alloc (Nat.le_trans b1.size b2.size) _)
  clear b1 b2
  go_wp2_with (first | (refine wpList_store_row rfl _ _ _ rfl w2.heap.size (cellsV ex1) rfl rfl 28 _ (heap_alloc_new w2 _) infoV rfl (cellsV_one ex1) ?_; rw [World.setRow_alloc_new]) | (refine wpList_load_rowG rfl 28 _ rfl w2.heap.size rfl 28 (cellsV ex1) (0, 0) _ X2.out Try.underlying28 rfl infoV ?_) | (refine wpList_valG (o := ⟨some 19, _, _, _, _, _⟩) (.agg (cellsV ex1)) rfl (by kernel_rfl) ?_))
  go_ret
  exact ⟨rfl, B2.out⟩
end Go.Proofs.Ytfcjgllljejfcaa
