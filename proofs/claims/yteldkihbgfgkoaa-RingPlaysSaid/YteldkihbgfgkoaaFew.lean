/- few: whether the operations are few. -/
import Derived.Test.YteldkihbgfgkoaaOpen
import Derived.Test.YteldkihbgfgkoaaAlive
import Derived.Test.YteldkihbgfgkoaaInts
namespace Go.Proofs.Yteldkihbgfgkoaa
open Go Go.RowKit
set_option linter.unusedVariables false

/-- The operations before k push at most 50 elements each. -/
def FewTo (w : World) (a : Option Addr) (k : Nat) : Prop := ∀ b off, a = some ⟨b, off, none⟩ → ∀ i, i < k → ∀ al ll cl, w.cell? ⟨b, off + i * 2 + 1, none⟩ = some (.slice al ll cl) → ll ≤ 50
def FewPost (w : World) (a : Option Addr) (len : Nat) (e : Ending) (w' : World) : Prop := ∃ r : Bool, e = .returned (.bool r) ∧ (r = true → len ≤ 100 ∧ FewTo w a len) ∧ Below w.heap.size w w'

theorem few_any (a : Option Addr) (len cap : Nat) (w : World) (h : IsOps w a len cap) : Calls Try.prog 11 #[.slice a len cap] w (FewPost w a len) := by
  obtain ⟨h1, h2, h3⟩ := h
  unfold maxLen at h2
  have H3 := Lib.hid h3
  clear h3
  by_cases hb : (100 : Int) < (len : Int)
  · go_enter Try.func11, Try.ntmps11
    go_wp2
    go_ret
    exact ⟨false, rfl, (fun h => by cases h), Below.refl _ _⟩
  · go_enter Try.func11, Try.ntmps11
    go_wp2
    go_loopw [10] (fun s10 wr => ∃ k : Nat, k ≤ len ∧ s10 = .int .i64 k ∧ Below w.heap.size w wr ∧ Hid (FewTo w a k)) (fun s10 _ => len - (intOf s10).toNat)
    case atStart => exact ⟨0, by omega, rfl, Below.refl _ _, Lib.hid (fun _ _ _ i hi => by omega)⟩
    case round =>
      obtain ⟨k, hk, rfl, B, HF⟩ := hrel
      by_cases hkl : k < len
      · obtain ⟨b, off, rfl, hbl, hc⟩ := H3.out (by omega)
        obtain ⟨kd, al, ll, cl, z, x1, x2, hr⟩ := hc k hkl
        have y1 := (B.cell (p := ⟨b, off + k * 2, none⟩) hbl).trans x1
        have y2 := (B.cell (p := ⟨b, off + k * 2 + 1, none⟩) hbl).trans x2
        have hll : ll ≤ 9223372036854775807 := by
          rcases hr with ⟨_, h, _⟩ | ⟨_, _, h, h', _⟩
          · omega
          · unfold maxLen at h'; omega
        have X2 := Lib.hid x2
        clear hc x1 x2 hr
        by_cases h50 : (50 : Int) < (ll : Int)
        · go_wp2
          go_ret
          exact ⟨false, rfl, (fun h => by cases h), B.alloc B.size _⟩
        · go_wp2
          go_roundw
          case rel =>
            refine ⟨k + 1, by omega, by go_num, B.alloc B.size _, Lib.hid (fun b' off' e i hi al' ll' cl' hc => ?_)⟩
            by_cases hik : i = k
            · subst hik
              injection e with e
              injection e with e1 e2
              subst e1 e2
              have := X2.out.symm.trans hc
              injection this with this
              injection this with _ h _
              omega
            · exact HF.out b' off' e i (by omega) al' ll' cl' hc
          case measure => simp [intOf]; omega
      · obtain rfl : k = len := by omega
        go_wp2
        go_ret
        exact ⟨true, rfl, fun _ => ⟨by omega, HF.out⟩, B⟩
end Go.Proofs.Yteldkihbgfgkoaa
