/- The walk of RingTypes. -/
import Derived.Test.YteldkihbgfgkoaaStrs
import Derived.Test.YteldkihbgfgkoaaOpen
import Derived.Outline
namespace Go.Proofs.Yteldkihbgfgkoaa
open Go Go.RowKit Go.OpenShut
set_option linter.unusedVariables false

theorem isStrs_at {w wr : World} {a : Option Addr} {len cap k : Nat} (h : IsStrs w a len cap) (hr : Below w.heap.size w wr) (hk : k < len) :
    ∃ b off s, a = some ⟨b, off, none⟩ ∧ wr.cell? ⟨b, off + k, none⟩ = some (.string s) ∧ s.size ≤ 9223372036854775807 := by
  obtain ⟨b, off, rfl, hbl, hc⟩ := h.2.2 (by omega)
  obtain ⟨s, hs, h63⟩ := hc k hk
  unfold maxLen at h63
  exact ⟨b, off, s, rfl, (hr.cell (p := ⟨b, off + k, none⟩) hbl).trans hs, by omega⟩

set_option maxRecDepth 100000 in
set_option maxHeartbeats 1000000 in
theorem walk_RingTypes (a0 : Option Addr) (len0 cap0 : Nat) (w : World) (w0 : IsStrs w a0 len0 cap0) :
    Calls Try.prog 8 #[.slice a0 len0 cap0] w fun e w' => e = .returned (.bool true) ∧ Below w.heap.size w w' := by
  have W0 := Lib.hid w0
  have hl1 : len0 ≤ 9223372036854775807 := by have := w0.1; have := w0.2.1; unfold maxLen at this; omega
  clear w0
  by_cases h100 : (100 : Int) < (len0 : Int)
  · go_enter Try.func8, Try.ntmps8
    go_wp2_with fail
    refine (alive_any _).mono ?_
    rintro e w4 ⟨rfl, hb4⟩
    go_wp2_with fail
    go_ret
    exact ⟨rfl, hb4⟩
  · have h100' : (len0 : Int) ≤ 100 := by omega
    go_enter Try.func8, Try.ntmps8
    go_wp2_with fail
    go_loopw [24] (fun s24 wr => ∃ k : Nat, k ≤ len0 ∧ s24 = .int .i64 k ∧ w = wr) (fun s24 _ => len0 - (intOf s24).toNat)
    case atStart => exact ⟨0, by omega, rfl, rfl⟩
    case round =>
      obtain ⟨k, hk, rfl, rfl⟩ := hrel
      by_cases hkl : k < len0
      · obtain ⟨lb, off, s, rfl, x1, hs63⟩ := isStrs_at W0.out (Below.refl _ _) hkl
        by_cases hs100 : (100 : Int) < (s.size : Int)
        · go_wp2_with fail
          refine (alive_any _).mono ?_
          rintro e w4 ⟨rfl, hb4⟩
          go_wp2_with fail
          go_ret
          exact ⟨rfl, hb4⟩
        · go_wp2_with fail
          go_roundw
          case rel => exact ⟨k + 1, by omega, by go_num, trivial⟩
          case measure => simp [intOf]; omega
      · obtain rfl : len0 = k := by omega
        go_wp2_with fail
        have hn1 := rs_new_some 3 w (by omega) (by omega)
        rw [show ((3 : Nat) : Int) = 3 from rfl] at hn1
        refine hn1.mono ?_
        clear hn1
        rintro e w1 ⟨rfl, hw1⟩
        have hn2 := rp_new_some 3 w1 (by omega) (by omega)
        rw [show ((3 : Nat) : Int) = 3 from rfl] at hn2
        have hz : w1.heap.size = w.heap.size + 1 := by rw [← hw1]; simp
        have HN2 := Lib.hid hn2
        have HW1 := Lib.hid hw1
        have HZ := Lib.hid hz
        clear hn2 hw1 hz
        go_wp2_with fail
        refine HN2.out.mono ?_
        rintro e w2 ⟨rfl, hw2⟩
        rw [HZ.out]
        have R2 : Rings w2 w.heap.size w.heap.size (w.heap.size + 1) none none [] [] := by rw [← hw2, ← HW1.out]; exact rings_new w _ (Nat.le_refl _)
        have B2 : Below w.heap.size w w2 := by rw [← hw2, ← HW1.out]; exact ((Below.refl _ _).alloc (Nat.le_refl _) _).alloc (by simp) _
        clear hw2 HN2 HW1 HZ
        go_wp2_with fail
        go_loopw [43] (fun s43 wr => ∃ (k : Nat) (g h : Option Nat) (L : List ByteArray), k ≤ len0 ∧ s43 = .int .i64 k ∧ Rings wr w.heap.size w.heap.size (w.heap.size + 1) g h L L ∧ Below w.heap.size w wr) (fun s43 _ => len0 - (intOf s43).toNat)
        case atStart => exact ⟨0, none, none, [], by omega, rfl, R2, B2⟩
        case round =>
          clear R2 B2
          obtain ⟨k, g, h, L, hk, rfl, RL, BL⟩ := hrel
          by_cases hkl : k < len0
          · obtain ⟨lb, off, s, rfl, x1, hs63⟩ := isStrs_at W0.out BL hkl
            obtain ⟨m, hm⟩ : ∃ m, min 1 (3 - L.length) = m := ⟨_, rfl⟩
            have HM := Lib.hid hm
            clear hm
            have RA := RL.kept ((Kept.refl _ wr).alloc (.cells #[.string s] 9))
            have hp1 := push_str s RA (Blk.new wr _ _) (fun hf => Nat.lt_irrefl _ (RL.1.lt _ hf)) HM.out
            have BA := BL.alloc BL.size (.cells #[.string s] 9)
            have HP1 := Lib.hid hp1
            clear hp1 RA RL
            go_wp2_with fail
            refine HP1.out.mono ?_
            rintro e w3 ⟨rfl, ⟨g3, r3⟩, f3⟩
            have B3 := f3 _ BA
            clear f3 HP1 BA BL
            have RB := r3.kept ((Kept.refl _ w3).alloc (.cells #[.string s, .string s] 52))
            have hp2 := push_pair s RB (Blk.new w3 _ _) (fun hf => Nat.lt_irrefl _ (r3.2.1.lt _ hf)) HM.out
            have BB := B3.alloc B3.size (.cells #[.string s, .string s] 52)
            have HP2 := Lib.hid hp2
            clear hp2 RB r3
            go_wp2_with fail
            refine HP2.out.mono ?_
            rintro e w4 ⟨rfl, ⟨h4, r4⟩, f4⟩
            have B4 := f4 _ BB
            clear f4 HP2 BB B3
            go_wp2_with fail
            go_roundw
            case rel => exact ⟨k + 1, g3, h4, _, by omega, by go_num, r4, B4⟩
            case measure => simp [intOf]; omega
          · obtain rfl : len0 = k := by omega
            go_wp2_with fail
            go_loopw [61] (fun s61 wr => ∃ (k : Nat) (g h : Option Nat) (L : List ByteArray), k ≤ len0 ∧ s61 = .int .i64 k ∧ Rings wr w.heap.size w.heap.size (w.heap.size + 1) g h L L ∧ Below w.heap.size w wr) (fun s61 _ => len0 - (intOf s61).toNat)
            case atStart => exact ⟨0, g, h, L, by omega, rfl, RL, BL⟩
            case round =>
              clear RL BL
              obtain ⟨j, g, h, L, hj, rfl, RL, BL⟩ := hrel
              by_cases hjl : j < len0
              · obtain ⟨s, ok, L', hp⟩ := pops RL
                have HP := Lib.hid hp
                clear hp
                go_wp2_with fail
                refine HP.out.mono ?_
                rintro e w3 ⟨rfl, f3, hB3, hq⟩
                have B3 := f3 _ BL
                have HQ := Lib.hid hq
                clear hq f3 HP RL BL
                go_wp2_with fail
                refine HQ.out.mono ?_
                rintro e w4 ⟨rfl, r4, f4⟩
                have B4 := f4 _ B3
                have r5 := r4.kept ((Kept.refl _ w4).alloc (.cells #[.string s, .string s] 52))
                have B5 := B4.alloc B4.size (.cells #[.string s, .string s] 52)
                have heq := equal_pair (w4.alloc (.cells #[.string s, .string s] 52)) s
                clear HQ f4 B3 r4 B4
                cases ok with
                | false =>
                  go_wp2_with fail
                  go_roundw
                  case rel => exact ⟨j + 1, g, h, _, by omega, by go_num, r5, B5⟩
                  case measure => simp [intOf]; omega
                | true =>
                  go_wp2_with fail
                  go_roundw
                  case rel => exact ⟨j + 1, g, h, _, by omega, by go_num, r5, B5⟩
                  case measure => simp [intOf]; omega
              · obtain rfl : len0 = j := by omega
                go_wp2_with fail
                refine (ri_clear_nil _).mono ?_
                rintro e w' ⟨rfl, rfl⟩
                go_wp2_with fail
                refine (ri_pop_nil _).mono ?_
                rintro e w' ⟨rfl, rfl⟩
                go_wp2_with fail
                refine (ri_peek_nil 0 _).mono ?_
                rintro e w' ⟨rfl, rfl⟩
                go_wp2_with fail
                refine (alive_any _).mono ?_
                rintro e w6 ⟨rfl, hb6⟩
                have B6 : Below w.heap.size w w6 := BL.trans (hb6.mono BL.size)
                clear hb6
                go_wp2_with fail
                have B7 := B6.alloc B6.size (.cells #[.int .i64 1] 3)
                refine (ri_push_none _ _ 1 1 (by omega)).mono ?_
                rintro e w' ⟨rfl, rfl⟩
                go_wp2_with fail
                refine (ri_len_nil _).mono ?_
                rintro e w' ⟨rfl, rfl⟩
                go_wp2_with fail
                refine (ri_free_nil _).mono ?_
                rintro e w' ⟨rfl, rfl⟩
                go_wp2_with fail
                refine (ri_all_nil _).mono ?_
                rintro e w' ⟨rfl, rfl⟩
                go_wp2_with fail
                go_ret
                exact ⟨rfl, B7⟩
end Go.Proofs.Yteldkihbgfgkoaa
