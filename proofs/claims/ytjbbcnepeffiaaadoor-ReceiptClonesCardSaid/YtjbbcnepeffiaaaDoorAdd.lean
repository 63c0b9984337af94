/- The writer: add appends parts to a line; cmp.Or of a name; letter and mark. -/
import Derived.Test.YtjbbcnepeffiaaaDoorPlain
import Derived.Test.YtjbbcnepeffiaaaDoorBld
import Derived.Test.YtjbbcnepeffiaaaDoorFirst
import Derived.Laws.EntriesVeiled
import Derived.WalkLawsBesides
import Derived.Lib.Strings
import Derived.LoopN
namespace Go.Proofs.YtjbbcnepeffiaaaDoor
open Go Go.RowKit
set_option linter.unusedVariables false
set_option linter.unusedSimpArgs false
set_option maxRecDepth 100000

def strs (ss : List (List UInt8)) : Array Value := (ss.map fun l => Value.string (bs l)).toArray
theorem strs_at {ss : List (List UInt8)} {k : Nat} {l : List UInt8} (h : ss[k]? = some l) : (strs ss)[k]? = some (.string (bs l)) := by simp [strs, h]
theorem flat_snoc {ss : List (List UInt8)} {k : Nat} {l : List UInt8} (h : ss[k]? = some l) : (ss.take (k + 1)).flatten = (ss.take k).flatten ++ l := by
  rw [List.take_add_one, h, List.flatten_append]
  simp
theorem flat_le (ss : List (List UInt8)) (k : Nat) : (ss.take k).flatten.length ≤ ss.flatten.length := by
  have h := congrArg List.length (congrArg List.flatten (List.take_append_drop k ss))
  rw [List.flatten_append, List.length_append] at h
  omega
theorem Bld.ne {B b g : Nat} {T : List UInt8} {t : TypeId} {cs : Array Value} {w : World} (h : Bld B b T w) (k : Blk w g t cs) (ht : t ≠ 73) : g ≠ b := by
  rintro rfl
  have one : ∀ p, ¬ Lib.BuilderAtF 73 5 B g p (Lib.byteCells T) w := fun p ⟨_, v, h2, _⟩ => by
    unfold Blk at k
    rw [k] at h2
    injection h2 with h2
    injection h2 with _ e _
    exact ht e
  exact h.elim (one _) (one _)
theorem Wrote.keep {B b g : Nat} {T : List UInt8} {t : TypeId} {cs : Array Value} {w w' : World} (k : Wrote B b w w') (h : Bld B b T w) (hg : Blk w g t cs) (h1 : t ≠ 73) (h2 : t ≠ 5) : Blk w' g t cs :=
  k.blk hg (h.ne hg h1) h2
set_option maxHeartbeats 800000 in
theorem add_any (B b : Nat) (T : List UInt8) (pb n c : Nat) (ss : List (List UInt8)) (w : World) (h : Bld B b T w) (hp : Blk w pb 9 (strs ss)) (hn : ss.length = n) (hnn : n ≤ 1000) (hsz : T.length + ss.flatten.length ≤ 140737488355328) :
    Calls Tryd.prog 38 #[.slice (some ⟨pb, 0, none⟩) n c, .pointer (some ⟨b, 0, none⟩)] w fun e w' => e = .returned (.tuple #[]) ∧ Bld B b (T ++ ss.flatten) w' ∧ Wrote B b w w' := by
  have H0 : Hid (Bld B b (T ++ (ss.take 0).flatten) w) := Lib.hid (by simpa using h)
  have HP := Lib.hid hp
  have HN := Lib.hid hn
  have HS := Lib.hid hsz
  clear h hp hn hsz
  go_enter Tryd.func38, Tryd.ntmps38
  go_wp2
  go_loopw [7] (fun i wr => ∃ k : Nat, k ≤ n ∧ i = .int .i64 k ∧ Hid (Bld B b (T ++ (ss.take k).flatten) wr) ∧ Hid (Wrote B b w wr) ∧ Hid (Blk wr pb 9 (strs ss))) (fun i _ => n - (intOf i).toNat)
  case atStart => exact ⟨0, by omega, rfl, H0, Lib.hid (Wrote.refl _ _ _), HP⟩
  case round =>
    clear H0 HP
    obtain ⟨k, hk, rfl, H1, K1, P1⟩ := hrel
    by_cases hlt : k < n
    · obtain ⟨l, hl⟩ : ∃ l, ss[k]? = some l := ⟨_, List.getElem?_eq_getElem (by rw [HN.out]; exact hlt)⟩
      have hc : wr.cell? ⟨pb, k, none⟩ = some (.string (bs l)) := by rw [P1.out.cell k]; exact strs_at hl
      have hle : (T ++ (ss.take k).flatten).length + (bs l).size ≤ 140737488355328 := by
        have h1 := flat_le ss (k + 1)
        rw [flat_snoc hl, List.length_append] at h1
        rw [List.length_append, bs_size]
        have := HS.out
        omega
      have HW := Lib.hid (write_any B b _ (bs l) wr H1.out hle (by have := H1.out.lt; omega))
      have HE : Hid (T ++ (ss.take (k + 1)).flatten = T ++ (ss.take k).flatten ++ (bs l).data.toList) := Lib.hid (by rw [flat_snoc hl, bs_list, List.append_assoc])
      generalize bs l = s at *
      clear hle hl
      go_wp2_with (fail)
      refine HW.out.mono ?_
      rintro e w1 ⟨rfl, h2, k2⟩
      have H2 : Hid (Bld B b (T ++ (ss.take (k + 1)).flatten) w1) := Lib.hid (by rw [HE.out]; exact h2)
      have P2 := Lib.hid (k2.keep H1.out P1.out (by decide) (by decide))
      have K2 := Lib.hid (K1.out.trans k2)
      clear h2 k2 hc HW HE H1 P1 K1
      go_wp2_with (fail)
      go_roundw
      case rel => exact ⟨k + 1, by omega, by go_num, H2, K2, P2⟩
      case measure => simp [intOf]; omega
    · obtain rfl : k = n := by omega
      have HE : Hid (ss.take k = ss) := Lib.hid (List.take_of_length_le (by rw [HN.out]; exact Nat.le_refl _))
      clear hlt
      have hlt : ¬ k < k := by omega
      go_wp2
      go_end0
      exact ⟨rfl, by have := H1.out; rwa [HE.out] at this, K1.out⟩
theorem writer_any (w : World) : Calls Tryd.prog 26 #[] w fun e w' => e = .returned (.tuple #[.func (.func 38) #[] #[.pointer (some ⟨w.heap.size, 0, none⟩)], .func (.func 40) #[.pointer (some ⟨w.heap.size, 0, none⟩)] #[]]) ∧ w' = w.alloc (.cells #[.pointer none, .slice none 0 0] 73) := by
  go_enter Tryd.func26, Tryd.ntmps26
  go_wp2
  go_ret2
  exact ⟨rfl, rfl⟩
theorem letter_any (c : Int) (w : World) : Calls Tryd.prog 30 #[.int .i64 c] w fun e w' => e = .returned (.string (bs (letL c))) ∧ w = w' := by
  by_cases h : c = 0
  · subst h
    go_enter Tryd.func30, Tryd.ntmps30
    go_wp2
    go_ret
    exact ⟨rfl, rfl⟩
  · have hb : (c == 0) = false := by simpa using h
    have HE : Hid (letL c = [118]) := Lib.hid (by unfold letL; rw [if_neg h])
    clear h
    go_enter Tryd.func30, Tryd.ntmps30
    go_wp2
    go_ret
    exact ⟨by rw [HE.out]; rfl, rfl⟩
theorem mark_any (f : Bool) (w : World) : Calls Tryd.prog 32 #[.bool f] w fun e w' => e = .returned (.string (bs (markL f))) ∧ w = w' := by
  cases f
  all_goals
    go_enter Tryd.func32, Tryd.ntmps32
    go_wp2
    go_ret
    exact ⟨rfl, rfl⟩
end Go.Proofs.YtjbbcnepeffiaaaDoor
