/- slices.stableCmpFunc, slices.SortStableFunc: the row is sorted, equal epochs in their order. -/
import Derived.Test.YtinndmglacfofaaMergeC
namespace Go.Proofs.Ytinndmglacfofaa
open Go Go.RowKit Go.Deep
set_option linter.unusedVariables false
set_option linter.unusedSimpArgs false

/-- The blocks of s that end at or before a are sorted. -/
def Done (s a : Nat) (l : List Ent) : Prop := ∀ q, (q + 1) * s ≤ a → Srt ((l.drop (q * s)).take s)
/-- The blocks of s that begin at or behind a are sorted. -/
def Todo (s a : Nat) (l : List Ent) : Prop := ∀ q, a ≤ q * s → Srt ((l.drop (q * s)).take s)
theorem blk_head {P R : List Ent} {k s : Nat} (h : k + s ≤ P.length) : ((P ++ R).drop k).take s = (P.drop k).take s := by
  rw [List.drop_append_of_le_length (by omega), List.take_append_of_le_length (by rw [List.length_drop]; omega)]
theorem blk_tail {P t R : List Ent} {k : Nat} (h : P.length + t.length ≤ k) : (P ++ t ++ R).drop k = R.drop (k - (P.length + t.length)) := by
  rw [List.drop_append, List.drop_of_length_le (by rw [List.length_append]; omega), List.nil_append, List.length_append]
theorem blk_at {P t R : List Ent} {s : Nat} (h : t.length = s ∨ (t.length ≤ s ∧ R = [])) : ((P ++ t ++ R).drop P.length).take s = t := by
  rw [List.append_assoc, List.drop_left]
  rcases h with h | ⟨h, rfl⟩
  · rw [List.take_left' h]
  · rw [List.append_nil, List.take_of_length_le h]
theorem Done.step {s a c : Nat} {P u t R : List Ent} (h : Done s a (P ++ u ++ R)) (hP : P.length = a) (ha : a = c * s) (hs : Srt t) (ht : t.length = s) : Done s (a + s) (P ++ t ++ R) := fun q hq => by
  rcases Nat.lt_or_ge q c with hc | hc
  · have h1 : (q + 1) * s ≤ c * s := Nat.mul_le_mul_right s hc
    have h2 : q * s + s ≤ P.length := by rw [Nat.add_mul, Nat.one_mul] at h1; omega
    have h3 := h q (by omega)
    rw [List.append_assoc, blk_head h2] at h3
    rw [List.append_assoc, blk_head h2]
    exact h3
  · have h1 : c * s ≤ q * s := Nat.mul_le_mul_right s hc
    have h2 : q * s = P.length := by rw [Nat.add_mul, Nat.one_mul] at hq; omega
    rw [h2, blk_at (.inl ht)]
    exact hs
theorem Done.last {s a c : Nat} {P u t : List Ent} (h : Done s a (P ++ u)) (hP : P.length = a) (ha : a = c * s) (hs : Srt t) (ht : t.length ≤ s) : Blocks s (P ++ t) := fun q => by
  rcases Nat.lt_or_ge q c with hc | hc
  · have h1 : (q + 1) * s ≤ c * s := Nat.mul_le_mul_right s hc
    have h2 : q * s + s ≤ P.length := by rw [Nat.add_mul, Nat.one_mul] at h1; omega
    have h3 := h q (by omega)
    rw [blk_head h2] at h3
    rw [blk_head h2]
    exact h3
  · have h1 : c * s ≤ q * s := Nat.mul_le_mul_right s hc
    rcases Nat.lt_or_ge c q with hq | hq
    · have h2 : (c + 1) * s ≤ q * s := Nat.mul_le_mul_right s hq
      rw [Nat.add_mul, Nat.one_mul] at h2
      rw [List.drop_of_length_le (by rw [List.length_append]; omega)]
      simpa using srt_nil
    · obtain rfl : q = c := by omega
      have := blk_at (P := P) (t := t) (R := []) (s := s) (.inr ⟨ht, rfl⟩)
      rw [List.append_nil, hP, ha] at this
      rw [this]
      exact hs
theorem Todo.next {s a b : Nat} {P u t R : List Ent} (h : Todo s a (P ++ u ++ R)) (hl : t.length = u.length) (hb : P.length + u.length = b) (hab : a ≤ b) : Todo s b (P ++ t ++ R) := fun q hq => by
  have h1 := h q (by omega)
  rw [blk_tail (by omega)] at h1
  rw [blk_tail (by omega), hl]
  exact h1
theorem Todo.at {s a c : Nat} {l : List Ent} (h : Todo s a l) (ha : a ≤ c * s) : Srt ((l.drop (c * s)).take s) := h c ha
theorem done_zero (s : Nat) (l : List Ent) (hs : 0 < s) : Done s 0 l := fun q hq => by
  have : s ≤ (q + 1) * s := Nat.le_mul_of_pos_left s (by omega)
  omega
theorem todo_zero {s : Nat} {l : List Ent} (h : Blocks s l) : Todo s 0 l := fun q _ => h q
theorem three (l : List Ent) (a s : Nat) : l = l.take a ++ (l.drop a).take s ++ l.drop (a + s) := by
  rw [← List.drop_drop, List.append_assoc, List.take_append_drop, List.take_append_drop]

/-- What the loops of the sort keep. -/
def Way (g cap n : Nat) (l : List Ent) (w0 w : World) (p : List Ent → Prop) : Prop := ∃ l', Row w g cap n l' ∧ Stab l l' ∧ p l' ∧ Kept (fun i => i = g) w0 w

set_option maxHeartbeats 3200000 in
theorem stable_any (g cap n : Nat) (l : List Ent) (w : World) (h : Row w g cap n l) (hn : n ≤ 1000000) :
    Calls Try.prog 31 #[.slice (some ⟨g, 0, none⟩) n cap, .int .i64 n, cmpF] w fun e w' => e = .returned (.tuple #[]) ∧ Sorted g cap n [] l [] w' ∧ Kept (fun i => i = g) w w' := by
  have H0 : Hid (Way g cap n l w w (fun l' => Done 20 0 l' ∧ ∃ c, 0 = c * 20)) := Lib.hid ⟨l, h, Stab.refl _, ⟨done_zero 20 l (by omega), 0, rfl⟩, Kept.refl _ _⟩
  have HINS := Lib.hid (fun a b P u Q w h ha hb => insertion_any g cap n a b P u Q w h hn ha hb)
  have HSYM := Lib.hid (fun N => sym_all g cap n hn N)
  clear h
  obtain ⟨fv, hfv⟩ : ∃ fv, cmpF = fv := ⟨_, rfl⟩
  unfold SymC at HSYM
  simp only [hfv] at HINS HSYM
  rw [hfv]
  clear hfv
  go_enter Try.func31, Try.ntmps31
  go_wp2
  go_loopw [7, 8] (fun s7 s8 wr => ∃ a b : Nat, a ≤ n ∧ a + 20 = b ∧ s7 = .int .i64 a ∧ s8 = .int .i64 b ∧ Hid (Way g cap n l w wr (fun l' => Done 20 a l' ∧ ∃ c, a = c * 20))) (fun s7 _ _ => n + 1 - (intOf s7).toNat)
  case atStart => exact ⟨0, 20, by omega, rfl, rfl, rfl, H0⟩
  case round =>
    clear H0
    obtain ⟨a, b, h1, h2, rfl, rfl, HW⟩ := hrel
    obtain ⟨l', hr, hst, ⟨hd, c, hc⟩, hk⟩ := HW.out
    have hl := hr.1
    by_cases hlt : b ≤ n
    · have hlt' : (b : Int) ≤ (n : Int) := by omega
      have e3 := three l' a 20
      rw [h2] at e3
      have hP : (l'.take a).length = a := by rw [List.length_take]; omega
      have hu : a + ((l'.drop a).take 20).length = b := by rw [List.length_take, List.length_drop]; omega
      rw [e3] at hr
      have HI := Lib.hid (HINS.out a b _ _ _ wr hr hP hu)
      have HN : Hid (∀ w2, Sorted g cap n (l'.take a) ((l'.drop a).take 20) (l'.drop b) w2 → Kept (fun i => i = g) wr w2 → Way g cap n l w w2 (fun l' => Done 20 b l' ∧ ∃ c, b = c * 20)) := Lib.hid (fun w2 ⟨t, x1, x2, x3⟩ hk2 => by
        have ht := x2.len
        refine ⟨_, x3, hst.trans ?_, ⟨?_, c + 1, by omega⟩, hk.trans hk2 (fun _ _ h => h)⟩
        · have := ((Stab.refl (l'.take a)).append x2).append (Stab.refl (l'.drop b))
          rwa [← e3] at this
        · have hd' := hd
          rw [e3] at hd'
          have := hd'.step hP hc x1 (by omega)
          rwa [h2] at this)
      obtain ⟨b', hb'⟩ : ∃ b', b + 20 = b' := ⟨_, rfl⟩
      have hwb : (b : Int) + 20 = (b' : Int) := by omega
      clear hr hst hd hk hl e3 hP hu HW hc
      go_wp2_with fail
      refine HI.out.mono ?_
      rintro e w2 ⟨rfl, x1, x2⟩
      have HZ := Lib.hid (HN.out w2 x1 x2)
      clear x1 x2 HI HN
      go_wp2_with fail
      go_roundw
      case rel => exact ⟨b, b', by omega, by omega, rfl, rfl, HZ⟩
      case measure => simp [intOf] <;> omega
    · have hlt' : ¬ (b : Int) ≤ (n : Int) := by omega
      have e3 : l' = l'.take a ++ l'.drop a ++ [] := by rw [List.append_nil, List.take_append_drop]
      have hP : (l'.take a).length = a := by rw [List.length_take]; omega
      have hu : a + (l'.drop a).length = n := by rw [List.length_drop]; omega
      rw [e3] at hr
      have HI := Lib.hid (HINS.out a n _ _ _ wr hr hP hu)
      have HN : Hid (∀ w2, Sorted g cap n (l'.take a) (l'.drop a) [] w2 → Kept (fun i => i = g) wr w2 → Way g cap n l w w2 (Blocks 20)) := Lib.hid (fun w2 ⟨t, x1, x2, x3⟩ hk2 => by
        have ht := x2.len
        rw [List.append_nil] at x3
        refine ⟨_, x3, hst.trans ?_, ?_, hk.trans hk2 (fun _ _ h => h)⟩
        · have := (Stab.refl (l'.take a)).append x2
          rwa [List.take_append_drop] at this
        · refine Done.last (u := l'.drop a) ?_ hP hc x1 (by omega)
          rw [List.take_append_drop]
          exact hd)
      clear hr hst hd hk hl e3 hP hu HW hc
      go_wp2_with fail
      refine HI.out.mono ?_
      rintro e w2 ⟨rfl, x1, x2⟩
      have HZ := Lib.hid (HN.out w2 x1 x2)
      clear x1 x2 HI HN hlt hlt' h1 h2 HINS
      go_wp2_with fail
      go_loopw [6] (fun s6 wr => ∃ s : Nat, 0 < s ∧ s ≤ 2000000 ∧ s6 = .int .i64 s ∧ Hid (Way g cap n l w wr (Blocks s))) (fun s6 _ => n - (intOf s6).toNat)
      case atStart => exact ⟨20, by omega, by omega, rfl, HZ⟩
      case round =>
        clear HZ
        obtain ⟨s, h1, h2, rfl, HW⟩ := hrel
        by_cases hlt : s < n
        · have hlt' : (s : Int) < (n : Int) := by omega
          obtain ⟨s2, hs2⟩ : ∃ s2, 2 * s = s2 := ⟨_, rfl⟩
          have hw2 : 2 * (s : Int) = (s2 : Int) := by omega
          have hw3 : (s : Int) * 2 = (s2 : Int) := by omega
          have HW0 : Hid (Way g cap n l w wr (fun l' => Done s2 0 l' ∧ Todo s 0 l' ∧ ∃ c, 0 = c * s2)) := Lib.hid (by
            obtain ⟨l', q1, q2, q3, q4⟩ := HW.out
            exact ⟨l', q1, q2, ⟨done_zero _ _ (by omega), todo_zero q3, 0, by simp⟩, q4⟩)
          clear HW
          go_wp2_with fail
          go_loopw [7, 8] (fun s7 s8 wr => ∃ a b : Nat, a ≤ n ∧ a + s2 = b ∧ s7 = .int .i64 a ∧ s8 = .int .i64 b ∧ Hid (Way g cap n l w wr (fun l' => Done s2 a l' ∧ Todo s a l' ∧ ∃ c, a = c * s2))) (fun s7 _ _ => n + 1 - (intOf s7).toNat)
          case atStart => exact ⟨0, s2, by omega, by omega, rfl, rfl, HW0⟩
          case round =>
            clear HW0
            obtain ⟨a, b, k1, k2, rfl, rfl, HW⟩ := hrel
            obtain ⟨l', hr, hst, ⟨hd, htd, c, hc⟩, hk⟩ := HW.out
            have hl := hr.1
            obtain ⟨m, hm⟩ : ∃ m, a + s = m := ⟨_, rfl⟩
            have hwm : (a : Int) + (s : Int) = (m : Int) := by omega
            have ea : a = (2 * c) * s := by rw [hc, ← hs2, ← Nat.mul_assoc, Nat.mul_comm c 2]
            have em : m = (2 * c + 1) * s := by rw [Nat.add_mul, Nat.one_mul]; omega
            have su : Srt ((l'.drop a).take s) := by rw [ea]; exact htd (2 * c) (by omega)
            have sv : Srt ((l'.drop m).take s) := by rw [em]; exact htd (2 * c + 1) (by omega)
            by_cases hlt : b ≤ n
            · have hlt' : (b : Int) ≤ (n : Int) := by omega
              have e3 : l' = l'.take a ++ (l'.drop a).take s ++ (l'.drop m).take s ++ l'.drop b := by
                have x1 := three l' a s
                have x2 : l'.drop m = (l'.drop m).take s ++ l'.drop b := by
                  have := List.take_append_drop s (l'.drop m)
                  rw [List.drop_drop, show m + s = b by omega] at this
                  exact this.symm
                rw [hm] at x1
                rw [List.append_assoc _ ((l'.drop m).take s), ← x2]
                exact x1
              have hP : (l'.take a).length = a := by rw [List.length_take]; omega
              have hu : ((l'.drop a).take s).length = s := by rw [List.length_take, List.length_drop]; omega
              have hv : ((l'.drop m).take s).length = s := by rw [List.length_take, List.length_drop]; omega
              have hr' := hr
              rw [e3] at hr'
              have HI := Lib.hid (HSYM.out _ a m b _ _ _ _ wr hr' hP (by omega) (by omega) (by omega) (by omega) su sv (Nat.le_refl _))
              have HN : Hid (∀ w2, Sorted g cap n (l'.take a) ((l'.drop a).take s ++ (l'.drop m).take s) (l'.drop b) w2 → Kept (fun i => i = g) wr w2 → Way g cap n l w w2 (fun l' => Done s2 b l' ∧ Todo s b l' ∧ ∃ c, b = c * s2)) := Lib.hid (fun w2 ⟨t, x1, x2, x3⟩ hk2 => by
                have ht := x2.len
                rw [List.length_append] at ht
                have e4 : l' = l'.take a ++ ((l'.drop a).take s ++ (l'.drop m).take s) ++ l'.drop b := by
                  rw [← List.append_assoc (l'.take a)]
                  exact e3
                refine ⟨_, x3, hst.trans ?_, ⟨?_, ?_, c + 1, by rw [Nat.add_mul, Nat.one_mul]; omega⟩, hk.trans hk2 (fun _ _ h => h)⟩
                · have := ((Stab.refl (l'.take a)).append x2).append (Stab.refl (l'.drop b))
                  rwa [← e4] at this
                · have hd' := hd
                  rw [e4] at hd'
                  have := hd'.step hP hc x1 (by omega)
                  rwa [k2] at this
                · have htd' := htd
                  rw [e4] at htd'
                  exact htd'.next (by rw [List.length_append]; omega) (by rw [List.length_append]; omega) (by omega))
              obtain ⟨b', hb'⟩ : ∃ b', b + s2 = b' := ⟨_, rfl⟩
              have hwb : (b : Int) + (s2 : Int) = (b' : Int) := by omega
              clear hr hr' hst hd htd hk hl e3 hP hu hv HW hc ea em su sv hm
              go_wp2_with fail
              refine HI.out.mono ?_
              rintro e w2 ⟨rfl, x1, x2⟩
              have HZ := Lib.hid (HN.out w2 x1 x2)
              clear x1 x2 HI HN
              go_wp2_with fail
              go_roundw
              case rel => exact ⟨b, b', by omega, by omega, rfl, rfl, HZ⟩
              case measure => simp [intOf] <;> omega
            · have hlt' : ¬ (b : Int) ≤ (n : Int) := by omega
              by_cases hmn : m < n
              · have hmn' : (m : Int) < (n : Int) := by omega
                have e3 : l' = l'.take a ++ (l'.drop a).take s ++ l'.drop m ++ [] := by
                  have x1 := three l' a s
                  rw [hm] at x1
                  rw [List.append_nil]
                  exact x1
                have hP : (l'.take a).length = a := by rw [List.length_take]; omega
                have hu : ((l'.drop a).take s).length = s := by rw [List.length_take, List.length_drop]; omega
                have hv : (l'.drop m).length = n - m := by rw [List.length_drop]; omega
                have sv' : Srt (l'.drop m) := by rw [List.take_of_length_le (by omega)] at sv; exact sv
                have hr' := hr
                rw [e3] at hr'
                have HI := Lib.hid (HSYM.out _ a m n _ _ _ _ wr hr' hP (by omega) (by omega) (by omega) (by omega) su sv' (Nat.le_refl _))
                have HN : Hid (∀ w2, Sorted g cap n (l'.take a) ((l'.drop a).take s ++ l'.drop m) [] w2 → Kept (fun i => i = g) wr w2 → Way g cap n l w w2 (Blocks s2)) := Lib.hid (fun w2 ⟨t, x1, x2, x3⟩ hk2 => by
                  have ht := x2.len
                  rw [List.length_append] at ht
                  rw [List.append_nil] at x3
                  have e4 : l' = l'.take a ++ ((l'.drop a).take s ++ l'.drop m) := by
                    rw [← List.append_assoc]
                    rw [List.append_nil] at e3
                    exact e3
                  refine ⟨_, x3, hst.trans ?_, ?_, hk.trans hk2 (fun _ _ h => h)⟩
                  · have := (Stab.refl (l'.take a)).append x2
                    rwa [← e4] at this
                  · have hd' := hd
                    rw [e4] at hd'
                    exact hd'.last hP hc x1 (by omega))
                clear hr hr' hst hd htd hk hl e3 hP hu hv HW hc ea em su sv sv' hm
                go_wp2_with fail
                refine HI.out.mono ?_
                rintro e w2 ⟨rfl, x1, x2⟩
                have HZ := Lib.hid (HN.out w2 x1 x2)
                clear x1 x2 HI HN
                go_wp2_with fail
                go_roundw
                case rel => exact ⟨s2, by omega, by omega, rfl, HZ⟩
                case measure => simp [intOf] <;> omega
              · have hmn' : ¬ (m : Int) < (n : Int) := by omega
                have HZ : Hid (Way g cap n l w wr (Blocks s2)) := Lib.hid (by
                  have sx : Srt (l'.drop a) := by
                    rw [List.take_of_length_le (by rw [List.length_drop]; omega)] at su
                    exact su
                  refine ⟨l', hr, hst, ?_, hk⟩
                  have hd' := hd
                  rw [← List.take_append_drop a l'] at hd'
                  have := hd'.last (by rw [List.length_take]; omega) hc sx (by rw [List.length_drop]; omega)
                  rwa [List.take_append_drop] at this)
                clear hr hst hd htd hk hl HW hc ea em su sv hm
                go_wp2_with fail
                go_roundw
                case rel => exact ⟨s2, by omega, by omega, rfl, HZ⟩
                case measure => simp [intOf] <;> omega
        · have hlt' : ¬ (s : Int) < (n : Int) := by omega
          have HZ : Hid (Sorted g cap n [] l [] wr ∧ Kept (fun i => i = g) w wr) := Lib.hid (by
            obtain ⟨l', q1, q2, q3, q4⟩ := HW.out
            exact ⟨⟨l', blocks_whole q3 (by have := q1.1; omega), q2, by simpa using q1⟩, q4⟩)
          clear HW
          go_wp2_with fail
          go_end0
          exact ⟨rfl, HZ.out⟩
theorem sortstable_any (g cap n : Nat) (l : List Ent) (w : World) (h : Row w g cap n l) (hn : n ≤ 1000000) :
    Calls Try.prog 26 #[.slice (some ⟨g, 0, none⟩) n cap, cmpF] w fun e w' => e = .returned (.tuple #[]) ∧ Sorted g cap n [] l [] w' ∧ Kept (fun i => i = g) w w' := by
  have H := Lib.hid (stable_any g cap n l w h hn)
  clear h
  obtain ⟨fv, hfv⟩ : ∃ fv, cmpF = fv := ⟨_, rfl⟩
  rw [hfv] at H ⊢
  clear hfv
  go_enter Try.func26, Try.ntmps26
  go_wp2_with fail
  refine H.out.mono ?_
  rintro e w2 ⟨rfl, x1, x2⟩
  go_wp2_with fail
  go_end0
  exact ⟨rfl, x1, x2⟩
end Go.Proofs.Ytinndmglacfofaa
