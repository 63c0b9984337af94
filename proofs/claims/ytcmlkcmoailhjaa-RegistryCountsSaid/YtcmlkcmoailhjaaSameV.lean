/- The reference's Same, of two lists that are the same. -/
import Derived.Test.YtcmlkcmoailhjaaRefs
import Derived.Test.YtcmlkcmoailhjaaClass
namespace Go.Proofs.Ytcmlkcmoailhjaa
open Go Go.RowKit Go.Deep
set_option linter.unusedVariables false
set_option linter.unusedSimpArgs false

theorem q_nev {C : World → Prop} {Qa : Act → Prop} {ops : Array Oper} {rest : List Oper} {a : Act} {dst : Option Tmp} {yt ty : TypeId} {x y : Operand} {pos : String} {after : Array Edge} {guard : Option (Nat × Bool)} (p q : Val) (r : Bool) (hw : Region.wanted { dst, op := .binOp .neq 29 x y yt, type := ty, pos, after, guard } (yielded ops a.tmps) = true) (hx : a.eval x = .agg (cellsV p)) (hy : a.eval y = .agg (cellsV q)) (hr : (!decide (p = q)) = r)
    (h : wpQuiet Try.prog ops C Qa rest (a.put dst (.bool r))) : wpQuiet Try.prog ops C Qa ({ dst, op := .binOp .neq 29 x y yt, type := ty, pos, after, guard } :: rest) a :=
  q_val (.bool r) hw (fun w => exec_nev hx hy hr) h

set_option maxHeartbeats 800000 in
theorem same_any (S T : Nat → Prop) (a b : Option Addr) (cp cq : Nat) (l : List Val) (w : World) (h : Lst w S a l) (h2 : Lst w T b l) (hl : l.length ≤ 4096) :
    Calls Try.prog 17 #[.slice a l.length cp, .slice b l.length cq] w fun e w' => e = .returned (.bool true) ∧ ∃ m, w' = w.drewN m := by
  have HL := Lib.hid h
  have HM := Lib.hid h2
  obtain ⟨n, hn⟩ : ∃ n, l.length = n := ⟨_, rfl⟩
  rw [hn] at hl ⊢
  have HN := Lib.hid hn
  clear h h2 hn
  go_enter Try.func17, Try.ntmps17
  go_wp2
  go_loopw [5] (fun s5 wr => ∃ (k m : Nat), k ≤ n ∧ s5 = .int .i64 k ∧ wr = w.drewN m) (fun s5 _ => n - (intOf s5).toNat)
  case atStart => exact ⟨0, 0, by omega, rfl, rfl⟩
  case round =>
    obtain ⟨k, m, hk, rfl, rfl⟩ := hrel
    by_cases hlt : k < n
    · obtain ⟨v, hv⟩ : ∃ v, l[k]? = some v := ⟨_, List.getElem?_eq_getElem (by have := HN.out; omega)⟩
      obtain ⟨b1, o1, rfl, r1⟩ := HL.out.at hv
      obtain ⟨b2, o2, rfl, r2⟩ := HM.out.at hv
      have R1 := Lib.hid r1
      have R2 := Lib.hid r2
      have hk1 : ¬ (k : Int) < 0 := by omega
      have hk2 : ¬ (n : Int) ≤ (k : Int) := by omega
      have hk3 : (k : Int) < (n : Int) := by omega
      clear hv r1 r2
      go_wp2
      refine wp_region_class (fun w' => ∃ q, w' = w.drewN q) (by kernel_rfl) (by kernel_rfl) ⟨m + 1, rfl⟩ ?_
      iterate 3 (go_big_quiet_step ((intros; rfl)))
      refine q_load_val 29 _ b1 (o1 + k * 7) v _ rfl rfl rfl (fun w h => by obtain ⟨q, rfl⟩ := h; exact R1.out) Try.underlying29 rfl infoV ?_
      simp only [Act.put, List.setIfInBounds_toArray, List.set_cons_zero, List.set_cons_succ]
      iterate 3 (go_big_quiet_step ((intros; rfl)))
      refine q_load_val 29 _ b2 (o2 + k * 7) v _ rfl rfl rfl (fun w h => by obtain ⟨q, rfl⟩ := h; exact R2.out) Try.underlying29 rfl infoV ?_
      simp only [Act.put, List.setIfInBounds_toArray, List.set_cons_zero, List.set_cons_succ]
      refine q_nev v v false rfl rfl rfl (by simp) ?_
      simp only [Act.put, List.setIfInBounds_toArray, List.set_cons_zero, List.set_cons_succ]
      refine wpQuiet_nil ?_
      intro _ hw'
      obtain ⟨q, hw''⟩ := hw'
      subst hw''
      go_wp2
      go_roundw
      case rel => exact ⟨k + 1, q, by omega, by go_num, rfl⟩
      case measure => simp [intOf]; omega
    · obtain rfl : k = n := by omega
      clear hlt
      have hlt : ¬ k < k := by omega
      go_wp2
      go_ret
      exact ⟨rfl, m, rfl⟩
end Go.Proofs.Ytcmlkcmoailhjaa
