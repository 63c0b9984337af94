/- The walk of RingOrder. -/
import Derived.Test.YteldkihbgfgkoaaOrder
import Derived.Outline
namespace Go.Proofs.Yteldkihbgfgkoaa
open Go Go.RowKit Go.OpenShut
set_option linter.unusedVariables false
set_option maxRecDepth 100000 in
set_option maxHeartbeats 1000000 in
theorem walk_RingOrder (a0 : Int) (a1 : Option Addr) (len1 cap1 : Nat) (z1 : List Int) (a2 : Int) (w : World) (w0 : (Lit.int .u8 a0).wf = true) (w1 : IsRow .i64 w a1 len1 cap1 z1) (w2 : (Lit.int .u8 a2).wf = true) :
    Calls Try.prog 5 #[.int .u8 a0, .slice a1 len1 cap1, .int .u8 a2] w fun e w' => e = .returned (.bool true) ∧ Below w.heap.size w w' := by
  obtain ⟨u0, u1⟩ := bounds_u8 w0
  obtain ⟨u2, u3⟩ := bounds_u8 w2
  by_cases hb1 : (300 : Int) < (len1 : Int)
  · clear w0 w1 w2
    go_enter Try.func5, Try.ntmps5
    go_wp2_with fail
    refine (alive_any _).mono ?_
    rintro e w4 ⟨rfl, hb4⟩
    go_wp2_with fail
    go_ret
    exact ⟨rfl, hb4⟩
  · obtain ⟨n, hn, hn1, hn2⟩ : ∃ n : Nat, a0 + 1 = n ∧ 1 ≤ n ∧ n ≤ 256 := ⟨(a0 + 1).toNat, by omega, by omega, by omega⟩
    obtain ⟨m, hm, hm1, hm2⟩ : ∃ m : Nat, a2 % 5 + 1 = m ∧ 1 ≤ m ∧ m ≤ 5 := ⟨(a2 % 5 + 1).toNat, by omega, by omega, by omega⟩
    have hmz : ((m : Int) == 0) = false := by simp; omega
    have hm0 : (0 : Int) < (m : Int) := by omega
    have W1 := Lib.hid w1
    obtain ⟨j0, hj0, hz0, hz1, hz2⟩ := info_parts int_info
    clear w0 w1 w2
    go_enter Try.func5, Try.ntmps5
    go_wp2_with fail
    refine (ri_new_some n _ hn1 (by omega)).mono ?_
    rintro e w1 ⟨rfl, hw1⟩
    have R1 : Hid (RingAt 61 3 1 w1 w.heap.size none n 0 []) := by rw [← hw1]; exact Lib.hid (ringAt_new w _ _ 1 n hn1 (by omega))
    have B1 : Below w.heap.size w w1 := by rw [← hw1]; exact (Below.refl _ _).alloc (Nat.le_refl _) _
    have T1 : Trio w1 w.heap.size w.heap.size none n [] (.slice none 0 0) [] (.slice none 0 0) [] := ⟨R1.out, foot_none (Nat.le_refl _), World.ownsRow_nil _ _ _ _, World.ownsRow_nil _ _ _ _, fun k e => by simp [Value.ownBlock] at e, fun k e => by simp [Value.ownBlock] at e, B1.size⟩
    clear hw1
    go_wp2
    go_loopw [8, 9, 28] (fun s8 s9 s28 wr => ∃ (k : Nat) (g : Option Nat) (Q P O : List Int), k ≤ len1 ∧ s28 = .int .i64 k ∧ Hid (P = O ++ Q) ∧ P.length ≤ k ∧ Trio wr w.heap.size w.heap.size g n Q s8 P s9 O ∧ Below w.heap.size w wr) (fun _ _ s28 _ => len1 - (intOf s28).toNat)
    case atStart => exact ⟨0, none, [], [], [], by omega, rfl, Lib.hid rfl, by simp, T1, B1⟩
    case round =>
      obtain ⟨k, g, Q, P, O, hk, rfl, HP, hP, T, BR⟩ := hrel
      have hO : O.length + Q.length = P.length := by rw [HP.out]; simp
      by_cases hkl : k < len1
      · obtain ⟨lb, lo, ha, hlb, _, hlc⟩ := row_cells W1.out (by omega)
        have hx : wr.cell? ⟨lb, lo + k, none⟩ = some (.int .i64 (z1.getD k 0)) := (BR.cell (p := ⟨lb, lo + k, none⟩) hlb).trans (hlc k hkl).1
        subst ha
        generalize z1.getD k 0 = x at *
        clear hlc
        by_cases hpop : k % m = 0
        · have hp1 : ((k : Int) % (m : Int) == 0) = true := by simp; omega
          by_cases hroom : Q.length < n
          · go_wp2_with fail
            refine (T.room hroom).mono ?_
            rintro e w2 ⟨rfl, ⟨g2, T2⟩, hb2⟩
            have B2 := hb2 _ BR
            go_wp2_with (at_builtin; refine wpList_append_src _ rfl (.tmp 38) (.tmp 40) _ rfl w.heap.size 3 j0 _ 1 8 Try.underlying28 hj0 hz0 hz1 hz2 rfl Nat.one_pos u8 P.length (P.map (Value.int .i64)) rfl (T2.alloc _).2.2.1 (some ⟨w2.heap.size, 0, none⟩) 1 1 [.int .i64 x] rfl rfl (fun _ => ⟨_, rfl, World.news_of_block (cs := #[.int .i64 x]) (t := 3) (fr := (0, 0)) (heap_alloc_new w2 _)⟩) (fun u hu => by rw [List.mem_singleton.1 hu]; rfl) (by simp only [maxLen]; omega) (by omega) (T2.alloc _).2.2.2.2.2.2 ?_; intro vw3 w3 how3 hgw3 haw3)
            have T3 := (T2.alloc (.cells #[.int .i64 x] 3)).push8 (by simpa using how3) hgw3 haw3
            have B3 : Below w.heap.size w w3 := (B2.alloc T2.2.2.2.2.2.2 _).grown hgw3 (T2.alloc _).2.2.2.2.2.2 (fun q e => (T2.2.2.1.lt q e).1)
            clear hgw3 haw3 how3
            obtain ⟨y, Q', hQ'⟩ : ∃ y Q', (Q ++ [x]) = y :: Q' := cons_of_pos (by first | omega | (simp; done) | (simp; omega))
            have T4 := T3
            rw [hQ'] at T4
            have HQ' := Lib.hid hQ'
            clear hQ'
            go_wp2_with fail
            refine T4.pop.mono ?_
            rintro e w5 ⟨rfl, T5, hb5⟩
            have B5 := hb5 _ B3
            have hOP : O.length ≤ 300 := by omega
            go_wp2_with (at_builtin; refine wpList_append_src _ rfl (.tmp 55) (.tmp 57) _ rfl w.heap.size 3 j0 _ 1 8 Try.underlying28 hj0 hz0 hz1 hz2 rfl Nat.one_pos u9 O.length (O.map (Value.int .i64)) rfl (T5.alloc _).2.2.2.1 (some ⟨w5.heap.size, 0, none⟩) 1 1 [.int .i64 y] rfl rfl (fun _ => ⟨_, rfl, World.news_of_block (cs := #[.int .i64 y]) (t := 3) (fr := (0, 0)) (heap_alloc_new w5 _)⟩) (fun u hu => by rw [List.mem_singleton.1 hu]; rfl) (by simp only [maxLen]; omega) (by omega) (T5.alloc _).2.2.2.2.2.2 ?_; intro vw6 w6 how6 hgw6 haw6)
            have T6 := (T5.alloc (.cells #[.int .i64 y] 3)).push9 (by simpa using how6) hgw6 haw6
            have B6 : Below w.heap.size w w6 := (B5.alloc T5.2.2.2.2.2.2 _).grown hgw6 (T5.alloc _).2.2.2.2.2.2 (fun q e => (T5.2.2.2.1.lt q e).1)
            clear hgw6 haw6 how6
            go_wp2
            go_roundw
            case rel => exact ⟨k + 1, _, Q', (P ++ [x]), O ++ [y], by omega, by go_num, Lib.hid (by rw [HP.out]; simp [← HQ'.out]), by first | omega | (simp; omega), T6, B6⟩
            case measure => simp [intOf]; omega
          · have hQl : n ≤ Q.length := by omega
            go_wp2_with fail
            refine (T.full hroom).mono ?_
            rintro e w2 ⟨rfl, ⟨g2, T2⟩, hb2⟩
            have B2 := hb2 _ BR
            obtain ⟨y, Q', hQ'⟩ : ∃ y Q', Q = y :: Q' := cons_of_pos (by first | omega | (simp; done) | (simp; omega))
            have T4 := T2
            rw [hQ'] at T4
            have HQ' := Lib.hid hQ'
            clear hQ'
            go_wp2_with fail
            refine T4.pop.mono ?_
            rintro e w5 ⟨rfl, T5, hb5⟩
            have B5 := hb5 _ B2
            have hOP : O.length ≤ 300 := by omega
            go_wp2_with (at_builtin; refine wpList_append_src _ rfl (.tmp 55) (.tmp 57) _ rfl w.heap.size 3 j0 _ 1 8 Try.underlying28 hj0 hz0 hz1 hz2 rfl Nat.one_pos u9 O.length (O.map (Value.int .i64)) rfl (T5.alloc _).2.2.2.1 (some ⟨w5.heap.size, 0, none⟩) 1 1 [.int .i64 y] rfl rfl (fun _ => ⟨_, rfl, World.news_of_block (cs := #[.int .i64 y]) (t := 3) (fr := (0, 0)) (heap_alloc_new w5 _)⟩) (fun u hu => by rw [List.mem_singleton.1 hu]; rfl) (by simp only [maxLen]; omega) (by omega) (T5.alloc _).2.2.2.2.2.2 ?_; intro vw6 w6 how6 hgw6 haw6)
            have T6 := (T5.alloc (.cells #[.int .i64 y] 3)).push9 (by simpa using how6) hgw6 haw6
            have B6 : Below w.heap.size w w6 := (B5.alloc T5.2.2.2.2.2.2 _).grown hgw6 (T5.alloc _).2.2.2.2.2.2 (fun q e => (T5.2.2.2.1.lt q e).1)
            clear hgw6 haw6 how6
            go_wp2
            go_roundw
            case rel => exact ⟨k + 1, _, Q', P, O ++ [y], by omega, by go_num, Lib.hid (by rw [HP.out]; simp [← HQ'.out]), by first | omega | (simp; omega), T6, B6⟩
            case measure => simp [intOf]; omega
        · have hp1 : ((k : Int) % (m : Int) == 0) = false := by simp; omega
          by_cases hroom : Q.length < n
          · go_wp2_with fail
            refine (T.room hroom).mono ?_
            rintro e w2 ⟨rfl, ⟨g2, T2⟩, hb2⟩
            have B2 := hb2 _ BR
            go_wp2_with (at_builtin; refine wpList_append_src _ rfl (.tmp 38) (.tmp 40) _ rfl w.heap.size 3 j0 _ 1 8 Try.underlying28 hj0 hz0 hz1 hz2 rfl Nat.one_pos u8 P.length (P.map (Value.int .i64)) rfl (T2.alloc _).2.2.1 (some ⟨w2.heap.size, 0, none⟩) 1 1 [.int .i64 x] rfl rfl (fun _ => ⟨_, rfl, World.news_of_block (cs := #[.int .i64 x]) (t := 3) (fr := (0, 0)) (heap_alloc_new w2 _)⟩) (fun u hu => by rw [List.mem_singleton.1 hu]; rfl) (by simp only [maxLen]; omega) (by omega) (T2.alloc _).2.2.2.2.2.2 ?_; intro vw3 w3 how3 hgw3 haw3)
            have T3 := (T2.alloc (.cells #[.int .i64 x] 3)).push8 (by simpa using how3) hgw3 haw3
            have B3 : Below w.heap.size w w3 := (B2.alloc T2.2.2.2.2.2.2 _).grown hgw3 (T2.alloc _).2.2.2.2.2.2 (fun q e => (T2.2.2.1.lt q e).1)
            clear hgw3 haw3 how3
            go_wp2
            go_roundw
            case rel => exact ⟨k + 1, _, (Q ++ [x]), (P ++ [x]), O, by omega, by go_num, Lib.hid (by first | exact HP.out | (rw [HP.out]; simp)), by first | omega | (simp; omega), T3, B3⟩
            case measure => simp [intOf]; omega
          · have hQl : n ≤ Q.length := by omega
            go_wp2_with fail
            refine (T.full hroom).mono ?_
            rintro e w2 ⟨rfl, ⟨g2, T2⟩, hb2⟩
            have B2 := hb2 _ BR
            go_wp2
            go_roundw
            case rel => exact ⟨k + 1, _, Q, P, O, by omega, by go_num, Lib.hid (by first | exact HP.out | (rw [HP.out]; simp)), by first | omega | (simp; omega), T2, B2⟩
            case measure => simp [intOf]; omega
      · obtain rfl : len1 = k := by omega
        have hO1 : O.length ≤ 300 := by omega
        go_wp2
        have T0 := Lib.hid T
        go_loopw [9, 62] (fun s9 s62 wr => ∃ (j : Nat) (g : Option Nat) (Q O : List Int), j ≤ len1 ∧ s62 = .int .i64 j ∧ Hid (P = O ++ Q) ∧ Q.length + j ≤ len1 ∧ Trio wr w.heap.size w.heap.size g n Q u8 P s9 O ∧ Below w.heap.size w wr) (fun _ s62 _ => len1 - (intOf s62).toNat)
        case atStart => exact ⟨0, g, Q, O, by omega, rfl, HP, by omega, T, BR⟩
        case round =>
          clear T0 T BR HP hO1 hO
          rename_i wprev
          clear g Q O
          obtain ⟨j, g, Q, O, hj, rfl, HP, hQj, T, BR⟩ := hrel
          have hO : O.length + Q.length = P.length := by rw [HP.out]; simp
          by_cases hjl : j < len1
          · by_cases hq : 0 < Q.length
            · obtain ⟨y, Q', hQ'⟩ := cons_of_pos hq
              rw [hQ'] at T
              have HQ' := Lib.hid hQ'
              clear hQ'
              go_wp2_with fail
              refine T.pop.mono ?_
              rintro e w5 ⟨rfl, T5, hb5⟩
              have B5 := hb5 _ BR
              go_wp2_with (at_builtin; refine wpList_append_src _ rfl (.tmp 70) (.tmp 72) _ rfl w.heap.size 3 j0 _ 1 8 Try.underlying28 hj0 hz0 hz1 hz2 rfl Nat.one_pos u9 O.length (O.map (Value.int .i64)) rfl (T5.alloc _).2.2.2.1 (some ⟨w5.heap.size, 0, none⟩) 1 1 [.int .i64 y] rfl rfl (fun _ => ⟨_, rfl, World.news_of_block (cs := #[.int .i64 y]) (t := 3) (fr := (0, 0)) (heap_alloc_new w5 _)⟩) (fun u hu => by rw [List.mem_singleton.1 hu]; rfl) (by simp only [maxLen]; omega) (by omega) (T5.alloc _).2.2.2.2.2.2 ?_; intro vw6 w6 how6 hgw6 haw6)
              have T6 := (T5.alloc (.cells #[.int .i64 y] 3)).push9 (by simpa using how6) hgw6 haw6
              have B6 : Below w.heap.size w w6 := (B5.alloc T5.2.2.2.2.2.2 _).grown hgw6 (T5.alloc _).2.2.2.2.2.2 (fun q e => (T5.2.2.2.1.lt q e).1)
              clear hgw6 haw6 how6
              go_wp2
              go_roundw
              case rel => exact ⟨j + 1, _, Q', O ++ [y], by omega, by go_num, Lib.hid (by rw [HP.out]; simp [← HQ'.out]), by have := congrArg List.length HQ'.out; simp at this; omega, T6, B6⟩
              case measure => simp [intOf]; omega
            · obtain rfl : Q = [] := List.eq_nil_of_length_eq_zero (by omega)
              go_wp2_with fail
              refine T.empty.mono ?_
              rintro e w5 ⟨rfl, rfl⟩
              go_wp2
              go_roundw
              case rel => exact ⟨j + 1, g, [], O, by omega, by go_num, HP, by simp; omega, T, BR⟩
              case measure => simp [intOf]; omega
          · obtain rfl : Q = [] := List.eq_nil_of_length_eq_zero (by omega)
            obtain rfl : P = O := by have := HP.out; simpa using this
            go_wp2_with fail
            refine (alive_any _).mono ?_
            rintro e w4 ⟨rfl, hb4⟩
            have T4 := T.kept (Kept.of_below hb4)
            have B4 := BR.trans (hb4.mono BR.size)
            obtain ⟨x8, c8, rfl, i8, l8, m8⟩ := owns_ints (S := fun _ => False) T4.2.2.1 (fun _ _ h => h)
            obtain ⟨x9, c9, rfl, i9, l9, m9⟩ := owns_ints (S := fun _ => False) T4.2.2.2.1 (fun _ _ h => h)
            have heq := equal_same (c := c8) (d := c9) i8 i9 rfl m8
            have HE := Lib.hid heq
            have c3 := T4.1.cells.2
            have c3' : w4.cell? ⟨w.heap.size, 3, none⟩ = some (.int .i64 0) := c3
            clear heq l8 l9 c3
            go_wp2_with fail
            refine HE.out.mono ?_
            rintro e w5 ⟨rfl, q, rfl⟩
            go_wp2_with fail
            refine (ri_len_any _ 0 (w4.drewN q) c3').mono ?_
            rintro e w5 ⟨rfl, rfl⟩
            go_wp2_with fail
            go_ret
            exact ⟨rfl, below_drewN B4 _⟩
end Go.Proofs.Yteldkihbgfgkoaa
