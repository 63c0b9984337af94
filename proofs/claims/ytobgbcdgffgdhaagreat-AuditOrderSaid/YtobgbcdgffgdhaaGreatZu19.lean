/- Part 19 of 29: L16Step Sl. -/
import Derived.Test.YtobgbcdgffgdhaaGreatZu11
import Derived.Test.YtobgbcdgffgdhaaGreatZu17
namespace Go.Proofs.YtobgbcdgffgdhaaGreat
set_option linter.unusedVariables false
set_option linter.unusedSimpArgs false
section
open Go Go.RowKit Go.Deep
set_option maxRecDepth 100000
def stepN (c : Nat → Int) (q : List (Int × Int)) : Nat := min (c 17).toNat q.length
end
section
open Go Go.RowKit
set_option maxRecDepth 100000
structure GoodC (c : Nat → Int) : Prop where
 ub0 : 0 ≤ c 10
 ub1 : c 10 ≤ 1048576
 sd0 : 0 ≤ c 11
 sd1 : c 11 ≤ 1048576
 num0 : 0 ≤ c 18
 num1 : c 18 ≤ c 19
 den0 : 1 ≤ c 19
 den1 : c 19 ≤ 4294967296
theorem goodC_of_chk {c : Nat → Int} (hf : Fits c) (h : chk c = 0) : GoodC c := by
 rcases chk_cases c with ⟨_, hb⟩ | ⟨k, _, _, _, e⟩
 ·have h10 := btw_spec (hb 10 (by omega))
  have h11 : decide (c 10 < c 11 ∧ c 11 ≤ 1048576) = true := hb 11 (by omega)
  have h18 : decide (c 18 ≤ c 19) = true := hb 18 (by omega)
  have h19 := btw_spec (hb 19 (by omega))
  have f18 : (Lit.int .u64 (c 18)).wf = true := hf 18 (by omega)
  simp at h11 h18
  exact ⟨by omega, h10.2, by omega, h11.2, (bounds_u64 f18).1, h18, h19.1, h19.2⟩
 ·omega
def penQ (v : Val) (c : Nat → Int) : Int := (amQ v.bal.toNat (c 18).toNat (c 19).toNat : Nat)
theorem pen_bound {v : Val} (c : Nat → Int) (hv : FitsV v) : 0 ≤ penQ v c ∧ penQ v c ≤ v.bal := by
 have := amQ_le v.bal.toNat (c 18).toNat (c 19).toNat
 have h := hv.bal
 unfold penQ
 omega
def slR (v : Val) (e : Int) (c : Nat → Int) : Int × Val := runE (slashL v e (c 11)) { v with bal := v.bal - penQ v c }
def slN (v : Val) (e : Int) (c : Nat → Int) : Int := if (slR v e c).1 = 0 then penQ v c else 0
theorem runE_bal : ∀ (es : List Eff) (x : Val), (∀ e ∈ es, ∀ x, (e x).2.bal = x.bal) → (runE es x).1 = 0 → (runE es x).2.bal = x.bal
 | [], x, _, _ => rfl
 | e :: es, x, h, h0 => by
  unfold runE at h0 ⊢
  split at h0
  ·rename_i hc
   rw [if_pos hc, runE_bal es _ (fun e he => h e (by simp [he])) h0]
   exact h e (by simp) x
  ·rename_i hc
   exact absurd h0 hc
theorem slash_bal {v : Val} (e : Int) (c : Nat → Int) (h : (slR v e c).1 = 0) : (slR v e c).2.bal + slN v e c = v.bal := by
 have k := runE_bal (slashL v e (c 11)) { v with bal := v.bal - penQ v c } (fun f hf x => by
  have hm : ∀ x, (markE x).2.bal = x.bal := fun x => by unfold markE; split <;> rfl
  have hp : ∀ x, (passE 7 x).2.bal = x.bal := fun x => by unfold passE; split <;> rfl
  have hh : ∀ x, (holdE e (c 11) x).2.bal = x.bal := fun x => by unfold holdE; split <;> rfl
  have hr : ∀ x, (requestE e x).2.bal = x.bal := fun x => by unfold requestE; split <;> rfl
  unfold slashL at hf
  split at hf
  ·simp only [List.mem_cons, List.not_mem_nil, or_false] at hf
   rcases hf with rfl | rfl | rfl | rfl
   ·exact hm x
   ·exact hp x
   ·exact hh x
   ·exact hr x
  ·simp only [List.mem_cons, List.not_mem_nil, or_false] at hf
   rcases hf with rfl | rfl | rfl
   ·exact hm x
   ·exact hp x
   ·exact hh x) h
 unfold slN slR at *
 rw [if_pos h, k]
 simp only
 omega
theorem slash_fits {v : Val} {e : Int} {c : Nat → Int} (hv : FitsV v) (h : (slR v e c).1 = 0) : FitsV (slR v e c).2 := by
 have hb := slash_bal e c h
 obtain ⟨p0, p1⟩ := pen_bound c hv
 have hbv := hv.bal
 have hn : slN v e c = penQ v c := by unfold slN; rw [if_pos h]
 have hwf : ∀ x : Int, 0 ≤ x → x ≤ 18446744073709551615 → (Lit.int .u64 x).wf = true := fun x h0 h1 => by
  simp [Lit.wf, IntKind.min, IntKind.max, IntKind.signed, IntKind.bits]; omega
 refine ⟨hwf _ (by omega) (by omega), ?_⟩
 unfold slR at *
 rw [show slashL v e (c 11) = slashL { v with bal := v.bal - penQ v c } e (c 11) from rfl] at h ⊢
 by_cases h1 : v.sl = true
 ·rw [sl_yes (v := { v with bal := v.bal - penQ v c }) h1] at h; simp at h
 ·have h1 : v.sl = false := by simpa using h1
  by_cases h2 : refN v.st 7 = 0
  ·rw [sl_bad (v := { v with bal := v.bal - penQ v c }) h1 h2] at h; simp at h
  ·by_cases h3 : lOk e (c 11)
   ·rw [sl_ok (v := { v with bal := v.bal - penQ v c }) h1 h2 h3]
    exact refN_wf v.st 7
   ·rw [sl_out (v := { v with bal := v.bal - penQ v c }) h1 h2 h3] at h; simp at h
end
end Go.Proofs.YtobgbcdgffgdhaaGreat
