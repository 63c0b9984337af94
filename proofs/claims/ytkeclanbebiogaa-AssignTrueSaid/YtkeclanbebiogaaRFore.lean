/- The reference's Forecast. -/
import Derived.Test.YtkeclanbebiogaaFore
namespace Go.Proofs.Ytkeclanbebiogaa
open Go Go.RowKit
set_option linter.unusedVariables false
set_option linter.unusedSimpArgs false
set_option maxRecDepth 100000

/-- The first exits' boundaries, by the reference. -/
def RTold (bal lim : Int) (z L : List Int) (n : Nat) : Prop := L.length = n ∧ ∀ i, i < n → At bal lim (sumTo z (i + 1)) (L.getD i 0) ∧ L.getD i 0 ≤ 300
theorem RTold.snoc {bal lim v : Int} {z L : List Int} {k : Nat} (h : RTold bal lim z L k) (hv : At bal lim (sumTo z (k + 1)) v) (h3 : v ≤ 300) : RTold bal lim z (L ++ [v]) (k + 1) := by
  obtain ⟨h1, h2⟩ := h
  refine ⟨by simp [h1], fun i hi => ?_⟩
  rw [List.getD_eq_getElem?_getD]
  by_cases h : i < k
  · rw [List.getElem?_append_left (by omega), ← List.getD_eq_getElem?_getD]
    exact h2 i h
  · obtain rfl : i = k := by omega
    rw [List.getElem?_append_right (by omega), h1]
    simpa using ⟨hv, h3⟩
def RIn (bal lim : Int) (z : List Int) (k : Int) (n : Nat) (B : Int) : Prop := B = bal + k * lim - sumTo z n ∧ 0 ≤ B
/-- No exit at n fits before boundary k. -/
def Stuck (bal lim : Int) (z : List Int) (k : Int) (n : Nat) : Prop := k = 1 ∨ bal + (k - 1) * lim < sumTo z (n + 1)
def RForePost (w : World) (bal lim : Int) (z : List Int) (e : Ending) (w' : World) : Prop :=
  ∃ n a c L, e = .returned (.slice a n c) ∧ n ≤ z.length ∧ RTold bal lim z L n ∧ (n = z.length ∨ bal + 300 * lim < sumTo z (n + 1)) ∧ Hid (w'.ownsRow w.heap.size 3 1 (.slice a n c) n (L.map (Value.int .i64))) ∧ Below w.heap.size w w'
section
variable {w : World} {S : Nat → Prop} {wa : Option Addr} {z : List Int} {cap : Nat} {bal lim : Int}
set_option maxHeartbeats 3200000 in
theorem rforecast_any (hu : UAt w S wa z) (hz : Amts z) (hn : z.length ≤ 100000) (b0 : 0 ≤ bal) (b1 : bal ≤ 4294967295) (l0 : 0 ≤ lim) (l1 : lim ≤ 4294967295) :
    Calls Try.prog 26 #[.int .u64 bal, .int .u64 lim, .slice wa z.length cap, .int .i64 300] w (RForePost w bal lim z) := by
  obtain ⟨j0, hj0, hz0, hz1, hz2⟩ := int_app
  obtain ⟨len, hn'⟩ : ∃ n, z.length = n := ⟨_, rfl⟩
  have HU := Lib.hid hu
  have HZ := Lib.hid hz
  have HN := Lib.hid hn'
  have HL := Lib.hid (And.intro (And.intro b0 b1) (And.intro l0 l1))
  rw [hn'] at hn ⊢
  clear hu hz hn'
  generalize hq : w.heap.size = q at *
  have HQ := Lib.hid hq
  clear hq
  go_enter Try.func26, Try.ntmps26
  go_wp2
  go_loopw [0, 9, 10] (fun s0 s9 s10 wr => ∃ (k n : Nat) (B : Int) (a : Option Addr) (c : Nat) (L : List Int), 1 ≤ k ∧ k ≤ 301 ∧ n ≤ len ∧ s0 = .int .u64 B ∧ s9 = .slice a n c ∧ s10 = .int .i64 k ∧ Hid (RIn bal lim z ((k : Int) - 1) n B) ∧ Hid (n = len ∨ Stuck bal lim z k n) ∧ Hid (RTold bal lim z L n) ∧
    Hid (wr.ownsRow q 3 1 (.slice a n c) n (L.map (Value.int .i64))) ∧ Hid (Below q w wr ∧ q ≤ wr.heap.size)) (fun _ _ s10 _ => 301 - (intOf s10).toNat)
  case atStart => exact ⟨1, 0, bal, none, 0, [], by omega, by omega, by omega, rfl, rfl, rfl, Lib.hid ⟨by show bal = bal + (1 - 1) * lim - 0; omega, b0⟩, Lib.hid (.inr (.inl rfl)), Lib.hid ⟨rfl, fun i hi => by omega⟩, Lib.hid (World.ownsRow_nil _ _ _ _), Lib.hid ⟨Below.refl _ _, by rw [← HQ.out]; exact Nat.le_refl _⟩⟩
  case round =>
    obtain ⟨k, n, B, a, c, L, hk1, hk2, hn2, rfl, rfl, rfl, HI, HS, HT, HO, HW⟩ := hrel
    by_cases h300 : (k : Int) ≤ 300
    · by_cases hlt : n < len
      · obtain ⟨wo, hwo⟩ : ∃ wo, wo = wr := ⟨_, rfl⟩
        subst hwo
        have HB : Hid (0 ≤ B ∧ B ≤ 4398046511104) := Lib.hid (by
          have h1 := HI.out.1
          have h2 := sumTo_nonneg (fun i => (HZ.out i).1) n
          have h3 := Int.mul_le_mul_of_nonneg_right (show ((k : Int) - 1) ≤ 300 by omega) l0
          exact ⟨HI.out.2, by omega⟩)
        obtain ⟨hB0, hB1⟩ := HB.out
        have HI1 : Hid (RIn bal lim z k n (B + lim)) := Lib.hid ⟨by have h1 := HI.out.1; have h2 := pred_mul k lim; omega, by omega⟩
        have HS1 : Hid (Stuck bal lim z k n) := Lib.hid (HS.out.resolve_left (by omega))
        clear HI HS HB
        go_wp2_with fail
        go_loopg [0, 9] (len - n) (fun g s0 s9 wr => ∃ (n1 : Nat) (B1 : Int) (a1 : Option Addr) (c1 : Nat) (L1 : List Int), n1 + g = len ∧ s0 = .int .u64 B1 ∧ s9 = .slice a1 n1 c1 ∧ Hid (0 ≤ B1 ∧ B1 ≤ 8796093022208) ∧ Hid (RIn bal lim z k n1 B1) ∧ Hid (Stuck bal lim z k n1) ∧ Hid (RTold bal lim z L1 n1) ∧
          Hid (wr.ownsRow q 3 1 (.slice a1 n1 c1) n1 (L1.map (Value.int .i64))) ∧ Hid (Below q w wr ∧ q ≤ wr.heap.size))
        case atStart => exact ⟨n, B + lim, a, c, L, by omega, rfl, rfl, Lib.hid ⟨by omega, by omega⟩, HI1, HS1, HT, HO, HW⟩
        case round =>
          clear HI1 HS1 HT HO HW
          obtain ⟨n1, B1, a1, c1, L1, hng, rfl, rfl, HB1, HI1, HS1, HT1, HO1, HW1⟩ := hrel
          obtain ⟨hC0, hC1⟩ := HB1.out
          by_cases hl1 : n1 < len
          · obtain ⟨b, off, rfl, _, hb, hc⟩ := HU.out (by rw [HN.out]; omega)
            have hcell : wr.cell? ⟨b, off + n1, none⟩ = some (.int .u64 (z.getD n1 0)) := (HW1.out.1.cell (p := ⟨b, off + n1, none⟩) (by rw [← HQ.out]; exact hb)).trans (hc n1 (by rw [HN.out]; exact hl1))
            obtain ⟨hx0, hx1⟩ := HZ.out n1
            have hs : sumTo z (n1 + 1) = sumTo z n1 + z.getD n1 0 := rfl
            by_cases hle : z.getD n1 0 ≤ B1
            · have HI2 : Hid (RIn bal lim z k (n1 + 1) (B1 - z.getD n1 0)) := Lib.hid ⟨by have h1 := HI1.out.1; omega, by omega⟩
              have HS2 : Hid (Stuck bal lim z k (n1 + 1)) := Lib.hid (by
                rcases HS1.out with h | h
                · exact .inl h
                · exact .inr (by have := sumTo_mono (fun i => (HZ.out i).1) (n1 + 1) 1; show _ < sumTo z (n1 + 1 + 1); omega))
              have HT2 : Hid (RTold bal lim z (L1 ++ [(k : Int)]) (n1 + 1)) := Lib.hid (HT1.out.snoc ⟨by omega, by have h1 := HI1.out.1; omega, HS1.out⟩ h300)
              have HO3 : Hid ((wr.alloc (.cells #[.int .i64 k] 3)).ownsRow q 3 1 (.slice a1 n1 c1) n1 (L1.map (Value.int .i64)) ∧ Below q w (wr.alloc (.cells #[.int .i64 k] 3)) ∧ q ≤ wr.heap.size) := Lib.hid ⟨HO1.out.alloc _, HW1.out.1.alloc HW1.out.2 _, HW1.out.2⟩
              clear HI1 HS1 HT1 HO1 HW1 hc hb hs HB1
              generalize z.getD n1 0 = x at *
              have HB2 : Hid (0 ≤ B1 - x ∧ B1 - x ≤ 8796093022208) := Lib.hid (by omega)
              go_wp2_with (at_builtin; refine wpList_append_own _ rfl (.tmp 47) (.tmp 49) 31 rfl q 3 j0 (.int .i64 0) 1 8 Try.underlying31 hj0 hz0 hz1 hz2 rfl (by decide) _ _ _ rfl HO3.out.1 ⟨wr.heap.size, 0, none⟩ 1 1 [.int .i64 (k : Int)] rfl rfl ?d1 ?d2 ?d3 ?d4 ?d5 ?_)
              case d1 =>
                intro j u hj
                match j, hj with
                | 0, hj => simp at hj; subst hj; simp [Addr.add]
              case d2 => intro u hu; simp at hu; subst hu; rfl
              case d3 => unfold maxLen; omega
              case d4 => omega
              case d5 => have := HO3.out.2.2; simp; omega
              intro v' w3 hown3 hgrow3 _
              have hbl : ∀ i, (Value.slice a1 n1 c1).ownBlock = some i → q ≤ i := fun i hi => (HO3.out.1.lt i hi).1
              have HO4 : Hid (w3.ownsRow q 3 1 v' (n1 + 1) ((L1 ++ [(k : Int)]).map (Value.int .i64))) := Lib.hid (by rw [List.map_append]; exact hown3)
              have HW4 : Hid (Below q w w3 ∧ q ≤ w3.heap.size) := Lib.hid ⟨HO3.out.2.1.grown hgrow3 (by have := HO3.out.2.2; simp; omega) (fun i hi => hbl i hi), by have := hgrow3.size; have := HO3.out.2.2; simp at *; omega⟩
              obtain ⟨a2, c2, rfl⟩ := owns_slice'' hown3
              clear hown3 hgrow3 HO3 hbl hcell
              go_wp2
              go_roundg (gk - 1)
              case measure => omega
              case rel => exact ⟨n1 + 1, B1 - x, a2, c2, L1 ++ [(k : Int)], by omega, rfl, rfl, HB2, HI2, HS2, HT2, HO4, HW4⟩
            · have HS2 : Hid (n1 = len ∨ Stuck bal lim z ((k : Int) + 1) n1) := Lib.hid (.inr (.inr (by have h1 := HI1.out.1; rw [show (k : Int) + 1 - 1 = k by omega]; omega)))
              have HI2 : Hid (RIn bal lim z (((k + 1 : Nat) : Int) - 1) n1 B1) := Lib.hid (by rw [show (((k + 1 : Nat) : Int) - 1) = k by omega]; exact HI1.out)
              have HS3 : Hid (n1 = len ∨ Stuck bal lim z ((k + 1 : Nat) : Int) n1) := Lib.hid (by rw [show ((k + 1 : Nat) : Int) = (k : Int) + 1 by omega]; exact HS2.out)
              clear HI1 HS1 hc hb hs HB1 HS2
              generalize z.getD n1 0 = x at *
              go_wp2
              go_roundw
              case rel => exact ⟨k + 1, n1, B1, a1, c1, L1, by omega, by omega, by omega, rfl, rfl, by go_num, HI2, HS3, HT1, HO1, HW1⟩
              case measure => simp [intOf]; omega
          · obtain rfl : n1 = len := by omega
            have HI2 : Hid (RIn bal lim z (((k + 1 : Nat) : Int) - 1) n1 B1) := Lib.hid (by rw [show (((k + 1 : Nat) : Int) - 1) = k by omega]; exact HI1.out)
            have HS3 : Hid (n1 = n1 ∨ Stuck bal lim z ((k + 1 : Nat) : Int) n1) := Lib.hid (.inl rfl)
            clear HI1 HS1 hl1 HB1
            have hl1 : ¬ n1 < n1 := by omega
            have hl2 : decide (n1 < n1) = false := by simp
            go_wp2
            go_roundw
            case rel => exact ⟨k + 1, n1, B1, a1, c1, L1, by omega, by omega, by omega, rfl, rfl, by go_num, HI2, HS3, HT1, HO1, HW1⟩
            case measure => simp [intOf]; omega
      · obtain rfl : n = len := by omega
        have HR : Hid (RForePost w bal lim z (.returned (.slice a n c)) wr) := Lib.hid ⟨n, a, c, L, rfl, by rw [HN.out]; exact Nat.le_refl _, HT.out, .inl HN.out.symm, Lib.hid (by rw [HQ.out]; exact HO.out), by rw [HQ.out]; exact HW.out.1⟩
        clear hlt HT HO HW HI HS
        have hlt : ¬ n < n := by omega
        have hl2 : decide (n < n) = false := by simp
        go_wp2
        go_ret
        exact HR.out
    · obtain rfl : k = 301 := by omega
      have HR : Hid (RForePost w bal lim z (.returned (.slice a n c)) wr) := Lib.hid ⟨n, a, c, L, rfl, by rw [HN.out]; exact hn2, HT.out, by
        rcases HS.out with h | h | h
        · exact .inl (by rw [HN.out]; exact h)
        · omega
        · exact .inr h, Lib.hid (by rw [HQ.out]; exact HO.out), by rw [HQ.out]; exact HW.out.1⟩
      clear HT HO HW HI HS
      have hd : decide (((301 : Nat) : Int) ≤ 300) = false := by decide
      go_wp2
      go_ret
      exact HR.out
end
end Go.Proofs.Ytkeclanbebiogaa
