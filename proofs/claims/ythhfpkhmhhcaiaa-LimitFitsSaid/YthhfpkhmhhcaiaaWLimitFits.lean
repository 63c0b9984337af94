/- The walk of LimitFits. -/
import Derived.Test.YthhfpkhmhhcaiaaLive
import Derived.Test.YthhfpkhmhhcaiaaSplit
import Derived.Test.YthhfpkhmhhcaiaaAdd
import Derived.Test.YthhfpkhmhhcaiaaAppend
import Derived.Outline
namespace Go.Proofs.Ythhfpkhmhhcaiaa
open Go Go.RowKit
set_option linter.unusedVariables false
set_option linter.unusedSimpArgs false

section
variable {w : World} {a : Option Addr} {len n : Nat} {z : List Int} {lim r : Int}
theorem fits_step (h : Rd .u64 w a len z) (hf : Fits lim z len n) (l0 : 0 ≤ lim) : ∀ k, k ≤ n → 0 ≤ left lim z k ∧ left lim z k ≤ lim
  | 0, _ => ⟨l0, Int.le_refl _⟩
  | k + 1, hk => by
    have ih := fits_step h hf l0 k (by omega)
    have hfit := hf.2.1 k (by omega)
    have hn := hf.1
    obtain ⟨_, _, _, _, hc⟩ := h (by omega)
    have := u64_of (hc k (by omega)).2
    simp only [left]
    omega
theorem fits_bounds (h : Rd .u64 w a len z) (hf : Fits lim z len n) (l0 : 0 ≤ lim) (l1 : lim ≤ 18446744073709551615) : 0 ≤ left lim z n ∧ left lim z n ≤ 18446744073709551615 := by
  have := fits_step h hf l0 n (Nat.le_refl _)
  omega
theorem sum_left (k : Nat) : sumTo z k + left lim z k = lim := by
  induction k with
  | zero => simp [sumTo, left]
  | succ k ih => simp only [sumTo, left]; omega
theorem sumTo_same {y : List Int} : ∀ k, (∀ i, i < k → y.getD i 0 = z.getD i 0) → sumTo y k = sumTo z k
  | 0, _ => rfl
  | k + 1, h => by simp only [sumTo]; rw [sumTo_same k (fun i hi => h i (by omega)), h k (by omega)]
theorem take_at {i : Nat} (hi : i < n) (hz : n ≤ z.length) : (z.take n ++ [r]).getD i 0 = z.getD i 0 := by
  rw [List.getD_eq_getElem?_getD, List.getElem?_append_left (by rw [List.length_take]; omega), List.getElem?_take_of_lt hi, ← List.getD_eq_getElem?_getD]
theorem take_end (hz : n ≤ z.length) : (z.take n ++ [r]).getD n 0 = r := by
  have hl : (z.take n).length = n := by rw [List.length_take]; omega
  rw [List.getD_eq_getElem?_getD, List.getElem?_append_right (by omega), hl, Nat.sub_self]
  rfl
theorem fits_sum (hf : Fits lim z len n) (hz : len ≤ z.length) : sumTo (z.take n ++ [left lim z n]) (n + 1) = lim := by
  have hn := hf.1
  simp only [sumTo]
  rw [take_end (by omega), sumTo_same (z := z) n (fun i hi => take_at hi (by omega))]
  exact sum_left n
theorem fits_all (h : Rd .u64 w a len z) (hf : Fits lim z len n) (hz : len ≤ z.length) (hr : 0 ≤ r ∧ r ≤ 18446744073709551615) (i : Nat) : 0 ≤ (z.take n ++ [r]).getD i 0 ∧ (z.take n ++ [r]).getD i 0 ≤ 18446744073709551615 := by
  have hn := hf.1
  rcases Nat.lt_trichotomy i n with h1 | h1 | h1
  · rw [take_at h1 (by omega)]
    obtain ⟨_, _, _, _, hc⟩ := h (by omega)
    exact u64_of (hc i (by omega)).2
  · subst h1
    rw [take_end (by omega)]
    exact hr
  · rw [List.getD_eq_getElem?_getD, List.getElem?_eq_none (by rw [List.length_append, List.length_take]; simp; omega)]
    decide
theorem one_map (L : List Int) : ∀ u ∈ L.map (Value.int .u64), u.oneCell' = true := fun u hu => by
  obtain ⟨x, _, rfl⟩ := List.mem_map.1 hu
  rfl
/-- The first n amounts, as append's source behind an allocation. -/
theorem src_take (h : Rd .u64 w a n z) (hl : (z.take n).length = n) (o : Obj) : 0 < n → ∃ ad, a = some ad ∧ ∀ j u, ((z.take n).map (Value.int .u64))[j]? = some u → (w.alloc o).cell? (ad.add j) = some u := fun h0 => by
  obtain ⟨b, off, rfl, hb, hc⟩ := h h0
  refine ⟨_, rfl, fun j u hu => ?_⟩
  have hj : j < n := by have := (List.getElem?_eq_some_iff.1 hu).1; rw [List.length_map, hl] at this; exact this
  rw [add_plain, ((Below.refl w.heap.size w).alloc (Nat.le_refl _) o).cell (p := ⟨b, off + j, none⟩) hb, (hc j hj).1]
  rw [List.getElem?_map, List.getElem?_take_of_lt hj] at hu
  cases hz : z[j]? with
  | none => rw [hz] at hu; cases hu
  | some x =>
    rw [hz] at hu
    injection hu with hu
    rw [← hu, List.getD_eq_getElem?_getD, hz]
    rfl
theorem cell_one_new (w : World) (t : TypeId) (v : Value) : ∀ j u, [v][j]? = some u → (w.alloc (.cells #[v] t)).cell? ((⟨w.heap.size, 0, none⟩ : Addr).add j) = some u := fun j u hu => by
  rw [add_plain, Nat.zero_add, (Blk.new w t #[v]).cell j]
  simpa using hu
/-- An owned row of one amount or more: where it lies. -/
theorem owns_amounts {base m : Nat} {v : Value} {L : List Int} (h : w.ownsRow base 22 1 v (m + 1) (L.map (Value.int .u64))) : ∃ g c, v = .slice (some ⟨g, 0, none⟩) (m + 1) c ∧ ∀ i, i < m + 1 → w.cell? ⟨g, 0 + i, none⟩ = some (.int .u64 (L.getD i 0)) := by
  have hl := h.1
  rw [List.length_map, Nat.mul_one] at hl
  rcases h.2 with ⟨_, h2⟩ | ⟨g, cp, cur, rfl, _⟩
  · omega
  · refine ⟨g, cp, rfl, fun i hi => ?_⟩
    have := h.cells (g := g) rfl i (.int .u64 (L.getD i 0)) (by rw [List.getElem?_map, List.getD_eq_getElem?_getD, List.getElem?_eq_getElem (by omega)]; rfl)
    rwa [add_plain] at this
end
set_option maxRecDepth 100000 in
set_option maxHeartbeats 1600000 in
theorem walk_LimitFits (a0 : Int) (a1 : Option Addr) (len1 cap1 : Nat) (z1 : List Int) (w : World) (w0 : (Lit.int .u64 a0).wf = true) (w1 : IsRow .u64 w a1 len1 cap1 z1) :
    Calls Try.prog 8 #[.int .u64 a0, .slice a1 len1 cap1] w fun e w' => e = .returned (.bool true) ∧ Below w.heap.size w w' := by
  obtain ⟨b0, c0⟩ := u64_of w0
  have hl := w1.len_le
  have hl1 := hl.1
  have hl2 := hl.2.1
  have hl3 := hl.2.2.1
  have hlen := hl.2.2.2
  have HRD := Lib.hid (Rd.of_row w1)
  have HP := Lib.hid (split_any (cap := cap1) (Rd.of_row w1) hl2 b0 c0)
  clear w0 w1 hl
  by_cases hbig : 1000 < len1
  · clear HP
    go_enter Try.func8, Try.ntmps8
    go_wp2_with fail
    refine (alive_any _).mono ?_
    rintro e w1 ⟨rfl, hb⟩
    have HB := Lib.hid hb
    clear hb
    go_wp2_with fail
    go_ret
    exact ⟨rfl, HB.out⟩
  · obtain ⟨i0, hi0, hz0, hs0, hb0⟩ := u64_info
    go_enter Try.func8, Try.ntmps8
    go_wp2_with fail
    refine HP.out.mono ?_
    rintro e w1 ⟨n, rfl, hn, rfl⟩
    have HN := Lib.hid hn
    have hn1 := hn.1
    have d1 : decide ((n : Int) < 0) = false := decide_eq_false (by omega)
    have d2 : decide (len1 < n) = false := decide_eq_false (by omega)
    have r0 : 0 ≤ left a0 z1 n ∧ left a0 z1 n ≤ 18446744073709551615 := fits_bounds HRD.out hn b0 c0
    have HS : Hid (sumTo (z1.take n ++ [left a0 z1 n]) (n + 1) = a0) := Lib.hid (fits_sum hn hlen)
    have HZ : Hid (∀ i, 0 ≤ (z1.take n ++ [left a0 z1 n]).getD i 0 ∧ (z1.take n ++ [left a0 z1 n]).getD i 0 ≤ 18446744073709551615) := Lib.hid (fits_all HRD.out hn hlen r0)
    clear hn HP
    obtain ⟨r, hr⟩ : ∃ r, left a0 z1 n = r := ⟨_, rfl⟩
    rw [hr] at HS HZ r0
    have HR := Lib.hid hr
    simp only [hr]
    clear hr
    obtain ⟨r0, r1⟩ := r0
    have HL : Hid ((z1.take n).length = n) := Lib.hid (by rw [List.length_take]; omega)
    clear hlen
    go_wp2_with (at_builtin; first
      | (refine wpList_append_src _ rfl (.tmp 28) (.tmp 31) 31 rfl w.heap.size 22 i0 _ 1 8 Try.underlying31 hi0 hz0 hs0 hb0 rfl Nat.one_pos _ 0 [] rfl (owns_empty (Blk.new w _ _) (Nat.le_refl _)) a1 n cap1 ((z1.take n).map (Value.int .u64)) rfl (by rw [List.length_map, HL.out, Nat.mul_one]) (src_take (HRD.out.less hn1) HL.out _) (one_map _) (by unfold maxLen; omega) (by omega) (by simp) ?_
         intro v1 w1 ho1 hg1 hv1
         have B1 : Below w.heap.size w w1 := ((Below.refl _ w).alloc (Nat.le_refl _) _).grown hg1 (by simp) (fun q hq => by injection hq with hq; have hq : w.heap.size = q := hq; omega)
         rw [Nat.zero_add, List.nil_append] at ho1)
      | (refine wpList_append_src _ rfl (.tmp 32) (.tmp 34) 31 rfl w.heap.size 22 i0 _ 1 8 Try.underlying31 hi0 hz0 hs0 hb0 rfl Nat.one_pos v1 n ((z1.take n).map (Value.int .u64)) rfl (ho1.alloc _) (some ⟨w1.heap.size, 0, none⟩) 1 1 [.int .u64 r] rfl rfl (fun _ => ⟨_, rfl, cell_one_new w1 _ _⟩) (by simp [Value.oneCell']) (by unfold maxLen; omega) (by omega) (by have := B1.size; simp; omega) ?_
         intro v2 w2 ho2 hg2 hv2
         have B2 : Below w.heap.size w w2 := (B1.alloc B1.size _).grown hg2 (by have := B1.size; simp; omega) (fun q hq => (ho1.lt q hq).1)
         obtain ⟨g, c2, rfl, hc⟩ := owns_amounts (L := z1.take n ++ [r]) (by rw [List.map_append]; exact ho2)
         have HO2 := Lib.hid hc
         have HB2 := Lib.hid B2
         clear ho2 hg2 hv2 hc))
    have HA : Hid (Calls Try.prog 15 #[.slice (some ⟨g, 0, none⟩) (n + 1) c2] w2 fun e w' => e = .returned (.tuple #[.int .u64 a0, .bool true]) ∧ w2 = w') := Lib.hid (by
      have hy := add_yes (z := z1.take n ++ [r]) (n := n + 1) (by rw [HS.out]; exact c0)
      have := add_row g 0 (n + 1) c2 (z1.take n ++ [r]) w2 (by omega) HO2.out HZ.out
      rw [hy.1, hy.2, HS.out] at this
      exact this)
    go_wp2_with fail
    refine HA.out.mono ?_
    rintro e w3 ⟨rfl, rfl⟩
    clear HA HO2 HS HZ
    go_wp2_with fail
    refine (alive_any _).mono ?_
    rintro e w3 ⟨rfl, hb⟩
    have B3 : Below w.heap.size w w3 := HB2.out.trans (hb.mono HB2.out.size)
    have H3 := Lib.hid (HRD.out.below B3)
    have HB3 := Lib.hid B3
    clear hb B3
    by_cases hnl : n = len1
    · subst hnl
      go_wp2_with fail
      go_ret
      exact ⟨rfl, HB3.out⟩
    · obtain ⟨b, off, rfl, hbl, hc⟩ := H3.out (by omega)
      have hx := (hc n (by omega)).1
      have hgt := HN.out.2.2 (by omega)
      rw [HR.out] at hgt
      generalize z1.getD n 0 = v at *
      have d3 : ((n : Int) == (len1 : Int)) = false := by simp; omega
      clear hc
      go_wp2_with fail
      go_ret
      exact ⟨rfl, HB3.out⟩
end Go.Proofs.Ythhfpkhmhhcaiaa
