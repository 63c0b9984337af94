/- slices.rotateCmpFunc: two neighbouring parts change places. -/
import Derived.Test.YtinndmglacfofaaSwap
namespace Go.Proofs.Ytinndmglacfofaa
open Go Go.RowKit Go.Deep
set_option linter.unusedVariables false
set_option linter.unusedSimpArgs false

set_option maxHeartbeats 1600000 in
theorem rotate_any (g cap n a m b : Nat) (fv : Value) (P u v Q : List Ent) (w : World) (h : Row w g cap n (P ++ u ++ v ++ Q)) (hn : n ≤ 1000000) (ha : P.length = a) (hm : a + u.length = m) (hb : m + v.length = b) (hu : 0 < u.length) (hv : 0 < v.length) :
    Calls Try.prog 36 #[.slice (some ⟨g, 0, none⟩) n cap, .int .i64 a, .int .i64 m, .int .i64 b, fv] w fun e w' => e = .returned (.tuple #[]) ∧ Row w' g cap n (P ++ v ++ u ++ Q) ∧ Kept (fun i => i = g) w w' := by
  have hlen := h.1
  simp only [List.length_append] at hlen
  have hbn : b ≤ n := by omega
  obtain ⟨i0, hi0⟩ : ∃ i, u.length = i := ⟨_, rfl⟩
  obtain ⟨j0, hj0⟩ : ∃ j, v.length = j := ⟨_, rfl⟩
  have hwi : (m : Int) - (a : Int) = (i0 : Int) := by omega
  have hwj : (b : Int) - (m : Int) = (j0 : Int) := by omega
  have H0 : Hid (Row w g cap n (P ++ u ++ v ++ Q) ∧ u.length = i0 ∧ v.length = j0 ∧ P.length + i0 = m) := Lib.hid ⟨h, hi0, hj0, by omega⟩
  have hp0 : 0 < i0 := by omega
  have hp1 : 0 < j0 := by omega
  have hp2 : m + j0 ≤ n := by omega
  have hp3 : i0 ≤ m := by omega
  clear h hlen hu hv hi0 hj0 hm hb ha
  go_enter Try.func36, Try.ntmps36
  go_wp2
  go_loopw [10, 11] (fun s10 s11 wr => ∃ (i j : Nat) (pre X Y suf : List Ent), 0 < i ∧ 0 < j ∧ s10 = .int .i64 i ∧ s11 = .int .i64 j ∧ m + j ≤ n ∧ i ≤ m ∧ Hid (Row wr g cap n (pre ++ X ++ Y ++ suf) ∧ X.length = i ∧ Y.length = j ∧ pre.length + i = m) ∧ Hid (pre ++ Y ++ X ++ suf = P ++ v ++ u ++ Q) ∧ Kept (fun i => i = g) w wr) (fun s10 s11 _ => (intOf s10).toNat + (intOf s11).toNat)
  case atStart => exact ⟨i0, j0, P, u, v, Q, hp0, hp1, rfl, rfl, hp2, hp3, H0, Lib.hid rfl, Kept.refl _ _⟩
  case round =>
    clear H0 hp0 hp1 hp2 hp3 hwi hwj
    obtain ⟨i, j, pre, X, Y, suf, q0, q1, rfl, rfl, q2, q3, HR, HE, HK⟩ := hrel
    obtain ⟨hr, hX, hY, hpre⟩ := HR.out
    obtain ⟨p, hp⟩ : ∃ p, pre.length = p := ⟨_, rfl⟩
    have hwp : (m : Int) - (i : Int) = (p : Int) := by omega
    by_cases heq : i = j
    · subst heq
      have HS : Hid (∀ w', Row w' g cap n (pre ++ X ++ [] ++ Y ++ suf) → Calls Try.prog 37 #[.slice (some ⟨g, 0, none⟩) n cap, .int .i64 p, .int .i64 m, .int .i64 i, fv] w' fun e w'' => e = .returned (.tuple #[]) ∧ Row w'' g cap n (pre ++ Y ++ [] ++ X ++ suf) ∧ Kept (fun i => i = g) w' w'') :=
        Lib.hid (fun w' hw => swaprange_any g cap n p m i fv pre X [] Y suf w' hw hn hp (by simp; omega) hX hY)
      have HR' : Hid (Row wr g cap n (pre ++ X ++ [] ++ Y ++ suf)) := Lib.hid (by simpa using hr)
      clear HR hr hX hY hpre hp
      go_wp2_with fail
      refine (HS.out _ HR'.out).mono ?_
      rintro e w2 ⟨rfl, hr2, hk2⟩
      have HZ : Hid (Row w2 g cap n (P ++ v ++ u ++ Q) ∧ Kept (fun i => i = g) w w2) := Lib.hid ⟨by rw [← HE.out]; simpa using hr2, HK.trans hk2 (fun _ _ h => h)⟩
      clear hr2 hk2
      go_wp2_with fail
      go_end0
      exact ⟨rfl, HZ.out⟩
    · have hne : ((i : Int) == (j : Int)) = false := by simp; omega
      by_cases hlt : j < i
      · have hlt' : (j : Int) < (i : Int) := by omega
        obtain ⟨X1, X2, rfl, hX1⟩ : ∃ X1 X2, X = X1 ++ X2 ∧ X1.length = j := ⟨X.take j, X.drop j, (List.take_append_drop _ _).symm, by rw [List.length_take]; omega⟩
        rw [List.length_append] at hX
        have HS : Hid (∀ w', Row w' g cap n (pre ++ X1 ++ X2 ++ Y ++ suf) → Calls Try.prog 37 #[.slice (some ⟨g, 0, none⟩) n cap, .int .i64 p, .int .i64 m, .int .i64 j, fv] w' fun e w'' => e = .returned (.tuple #[]) ∧ Row w'' g cap n (pre ++ Y ++ X2 ++ X1 ++ suf) ∧ Kept (fun i => i = g) w' w'') :=
          Lib.hid (fun w' hw => swaprange_any g cap n p m j fv pre X1 X2 Y suf w' hw hn hp (by omega) hX1 hY)
        have HR' : Hid (Row wr g cap n (pre ++ X1 ++ X2 ++ Y ++ suf)) := Lib.hid (by simpa using hr)
        have HF : Hid (X2.length = i - j ∧ (pre ++ Y).length + (i - j) = m) := Lib.hid ⟨by omega, by rw [List.length_append]; omega⟩
        have HX1 := Lib.hid hX1
        have hij : (i : Int) - (j : Int) = ((i - j : Nat) : Int) := by omega
        clear HR hr hX hY hpre hp hX1
        go_wp2_with fail
        refine (HS.out _ HR'.out).mono ?_
        rintro e w2 ⟨rfl, hr2, hk2⟩
        have HZ : Hid (Row w2 g cap n (pre ++ Y ++ X2 ++ X1 ++ suf) ∧ Kept (fun i => i = g) w w2) := Lib.hid ⟨hr2, HK.trans hk2 (fun _ _ h => h)⟩
        clear hr2 hk2
        go_wp2_with fail
        go_roundw
        case rel => exact ⟨i - j, j, pre ++ Y, X2, X1, suf, by omega, q1, by first | rfl | (rw [hij]), rfl, q2, by omega, Lib.hid ⟨HZ.out.1, HF.out.1, HX1.out, HF.out.2⟩, Lib.hid (by rw [← HE.out]; simp), HZ.out.2⟩
        case measure => simp [intOf]; omega
      · have hlt' : ¬ (j : Int) < (i : Int) := by omega
        have hij : i < j := by omega
        obtain ⟨Y1, Y2, rfl, hY2⟩ : ∃ Y1 Y2, Y = Y1 ++ Y2 ∧ Y2.length = i := ⟨Y.take (j - i), Y.drop (j - i), (List.take_append_drop _ _).symm, by rw [List.length_drop]; omega⟩
        rw [List.length_append] at hY
        obtain ⟨b', hb'⟩ : ∃ b', m + j - i = b' := ⟨_, rfl⟩
        have hwb : (m : Int) + (j : Int) - (i : Int) = (b' : Int) := by omega
        have HS : Hid (∀ w', Row w' g cap n (pre ++ X ++ Y1 ++ Y2 ++ suf) → Calls Try.prog 37 #[.slice (some ⟨g, 0, none⟩) n cap, .int .i64 p, .int .i64 b', .int .i64 i, fv] w' fun e w'' => e = .returned (.tuple #[]) ∧ Row w'' g cap n (pre ++ Y2 ++ Y1 ++ X ++ suf) ∧ Kept (fun i => i = g) w' w'') :=
          Lib.hid (fun w' hw => swaprange_any g cap n p b' i fv pre X Y1 Y2 suf w' hw hn hp (by omega) hX hY2)
        have HR' : Hid (Row wr g cap n (pre ++ X ++ Y1 ++ Y2 ++ suf)) := Lib.hid (by simpa using hr)
        have HF : Hid (Y1.length = j - i ∧ pre.length + i = m ∧ Y2.length = i) := Lib.hid ⟨by omega, by omega, hY2⟩
        have hji : (j : Int) - (i : Int) = ((j - i : Nat) : Int) := by omega
        clear HR hr hX hY hpre hp hY2 hb'
        go_wp2_with fail
        refine (HS.out _ HR'.out).mono ?_
        rintro e w2 ⟨rfl, hr2, hk2⟩
        have HZ : Hid (Row w2 g cap n (pre ++ Y2 ++ Y1 ++ (X ++ suf)) ∧ Kept (fun i => i = g) w w2) := Lib.hid ⟨by simpa using hr2, HK.trans hk2 (fun _ _ h => h)⟩
        clear hr2 hk2
        go_wp2_with fail
        go_roundw
        case rel => exact ⟨i, j - i, pre, Y2, Y1, X ++ suf, q0, by omega, rfl, by first | rfl | (rw [hji]), by omega, q3, Lib.hid ⟨HZ.out.1, HF.out.2.2, HF.out.1, HF.out.2.1⟩, Lib.hid (by rw [← HE.out]; simp), HZ.out.2⟩
        case measure => simp [intOf]; omega
end Go.Proofs.Ytinndmglacfofaa
