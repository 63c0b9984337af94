/- The walk of RingKeeps. -/
import Derived.Test.YteldkihbgfgkoaaOrder
import Derived.Outline
namespace Go.Proofs.Yteldkihbgfgkoaa
open Go Go.RowKit Go.OpenShut
set_option linter.unusedVariables false

/-- A row of integers that may be written: not one of S. -/
def MyRow (w : World) (S : Nat → Prop) (A : Option Addr) (len : Nat) : Prop :=
  0 < len → ∃ (g : Nat) (cs : Array Value), A = some ⟨g, 0, none⟩ ∧ ¬ S g ∧ Blk w g 3 cs ∧ ∀ j, j < len → ∃ x : Int, cs[j]? = some (.int .i64 x)
theorem MyRow.kept {w w' : World} {S T : Nat → Prop} {A : Option Addr} {len : Nat} (h : MyRow w S A len) (hk : Kept T w w') (hT : ∀ i, i < w.heap.size → T i → S i) : MyRow w' S A len := fun hl => by
  obtain ⟨g, cs, e, hn, hb, hc⟩ := h hl
  exact ⟨g, cs, e, hn, hb.kept hk (fun ht => hn (hT _ hb.lt ht)), hc⟩
theorem MyRow.other {w : World} {S T : Nat → Prop} {A : Option Addr} {len : Nat} (h : MyRow w S A len) (hT : ∀ i, i < w.heap.size → T i → S i) : MyRow w T A len := fun hl => by
  obtain ⟨g, cs, e, hn, hb, hc⟩ := h hl
  exact ⟨g, cs, e, fun ht => hn (hT _ hb.lt ht), hb, hc⟩
theorem MyRow.set_ {w : World} {S : Nat → Prop} {len k g : Nat} (h : MyRow w S (some ⟨g, 0, none⟩) len) (hk : k < len) (x : Int) : MyRow (w.setCell ⟨g, k, none⟩ (.int .i64 x)) S (some ⟨g, 0, none⟩) len ∧ Kept (fun i => ¬ S i) w (w.setCell ⟨g, k, none⟩ (.int .i64 x)) := by
  obtain ⟨g', cs, e, hn, hb, hc⟩ := h (by omega)
  injection e with e
  injection e with e
  subst e
  refine ⟨fun _ => ⟨g, _, rfl, hn, hb.set_ k _, fun j hj => ?_⟩, Kept.setCell (S := fun i => ¬ S i) (Kept.refl _ _) (.inl hn) _⟩
  obtain ⟨y, hy⟩ := hc j hj
  rw [Array.getElem?_setIfInBounds]
  by_cases e : k = j
  · subst e
    have hs : k < cs.size := (Array.getElem?_eq_some_iff.1 hy).1
    simp [hs]
  · rw [if_neg e]; exact ⟨y, hy⟩
theorem MyRow.cell {w : World} {S : Nat → Prop} {len k : Nat} {A : Option Addr} (h : MyRow w S A len) (hk : k < len) : ∃ g x, A = some ⟨g, 0, none⟩ ∧ w.cell? ⟨g, k, none⟩ = some (.int .i64 x) ∧ w.frozen? ⟨g, k, none⟩ = false := by
  obtain ⟨g, cs, e, hn, hb, hc⟩ := h (by omega)
  obtain ⟨x, hx⟩ := hc k hk
  exact ⟨g, x, e, by rw [hb.cell]; exact hx, hb.frozen k⟩
theorem myRow_of_owns {w : World} {S : Nat → Prop} {base n : Nat} {v : Value} {L : List Int} (h : w.ownsRow base 3 1 v n (L.map (Value.int .i64))) (hn : ∀ g, v.ownBlock = some g → ¬ S g) : ∃ a cap, v = .slice a n cap ∧ MyRow w S a n ∧ n ≤ cap ∧ cap ≤ 9223372036854775807 := by
  obtain ⟨h1, h2⟩ := h
  have hl : L.length = n := by simpa using h1
  rcases h2 with ⟨rfl, rfl⟩ | ⟨g, cap, cur, rfl, h3, h4, h5, h6, h7, h8⟩
  · exact ⟨none, 0, rfl, fun h0 => by omega, by omega, by omega⟩
  · refine ⟨_, cap, rfl, fun h0 => ⟨g, cur, rfl, hn g rfl, h4, fun j hj => ?_⟩, h5, by unfold maxLen at h6; omega⟩
    have hx : (L.map (Value.int .i64))[j]? = some (.int .i64 (L.getD j 0)) := by
      rw [List.getElem?_map, List.getD_eq_getElem?_getD, List.getElem?_eq_getElem (by omega)]
      rfl
    rw [← h8, List.getElem?_take_of_lt (by omega)] at hx
    exact ⟨_, by simpa using hx⟩
theorem myRow_of_blk {w : World} {S : Nat → Prop} {g : Nat} {L : List Int} (h : Blk w g 3 (L.map (Value.int .i64)).toArray) (hn : ¬ S g) : MyRow w S (some ⟨g, 0, none⟩) L.length := fun _ =>
  ⟨g, _, rfl, hn, h, fun j hj => ⟨L.getD j 0, by
    rw [List.getElem?_toArray, List.getElem?_map, List.getD_eq_getElem?_getD, List.getElem?_eq_getElem hj]
    rfl⟩⟩

set_option maxRecDepth 100000 in
set_option maxHeartbeats 1000000 in
theorem walk_RingKeeps (a0 : Option Addr) (len0 cap0 : Nat) (z0 : List Int) (w : World) (w0 : IsRow .i64 w a0 len0 cap0 z0) :
    Calls Try.prog 7 #[.slice a0 len0 cap0] w fun e w' => e = .returned (.bool true) ∧ Below w.heap.size w w' := by
  obtain ⟨I1, l1, c1, d1⟩ := IntsAt.of_row (S := fun i => w.heap.size ≤ i) w0 (fun i hi h => by omega)
  generalize z0.take len0 = L at *
  have J1 := Lib.hid I1
  have L1 := Lib.hid l1
  clear w0 I1 l1
  by_cases hb1 : (300 : Int) < (len0 : Int)
  · go_enter Try.func7, Try.ntmps7
    go_wp2_with fail
    refine (alive_any _).mono ?_
    rintro e w4 ⟨rfl, hb4⟩
    go_wp2_with fail
    go_ret
    exact ⟨rfl, hb4⟩
  · have hnew : ∀ w : World, Calls Try.prog 9 #[.int .i64 ((len0 : Int) + 1)] w fun e w' => e = .returned (.pointer (some ⟨w.heap.size, 0, none⟩)) ∧ w.alloc (.cells #[.int .i64 ((len0 : Int) + 1), .slice none 0 0, .int .i64 0, .int .i64 0] 61) = w' := fun w => by
      have := ri_new_some (len0 + 1) w (by omega) (by omega)
      simpa using this
    have HNEW := Lib.hid hnew
    obtain ⟨j0, hj0, hz0, hz1, hz2⟩ := info_parts int_info
    clear hnew
    go_enter Try.func7, Try.ntmps7
    go_wp2_with fail
    refine (HNEW.out _).mono ?_
    rintro e w1 ⟨rfl, hw1⟩
    have R1 : Hid (RingAt 61 3 1 w1 w.heap.size none (len0 + 1) 0 []) := by
      have := ringAt_new w 61 3 1 (len0 + 1) (by omega) (by omega)
      rw [← hw1]; exact Lib.hid (by simpa using this)
    have B1 : Below w.heap.size w w1 := by rw [← hw1]; exact (Below.refl _ _).alloc (Nat.le_refl _) _
    have Z1 : w1.heap.size = w.heap.size + 1 := by rw [← hw1]; simp
    have HZ1 := Lib.hid Z1
    clear hw1 Z1
    have s1 : Src (w1.alloc (.cells #[] 3)) (fun i => w.heap.size ≤ i) a0 len0 1 (L.map (Value.int .i64)) := by
      have := (J1.out.kept (Kept.of_below (S := fun _ => False) B1) (fun _ _ h => h.elim)).src
      rw [L1.out] at this
      exact this.kept (T := fun _ => False) ((Kept.refl _ _).alloc _) (fun _ _ h => h.elim)
    have S1 := Lib.hid s1
    clear s1
    go_wp2_with (at_builtin; refine wpList_append_src _ rfl (.tmp 18) (.tmp 19) _ rfl w1.heap.size 3 j0 _ 1 8 Try.underlying28 hj0 hz0 hz1 hz2 rfl Nat.one_pos (.slice (some ⟨w1.heap.size, 0, none⟩) 0 0) 0 [] rfl (owns_empty (Blk.new w1 _ _) (Nat.le_refl _)) a0 len0 cap0 (L.map (Value.int .i64)) rfl (by have := S1.out.1; omega) (fun h0 => by obtain ⟨ad, e, _, hc⟩ := S1.out.2.2 h0; exact ⟨ad, e, hc⟩) S1.out.2.1 (by simp only [maxLen]; omega) (by omega) (by simp) ?_; intro v4 w2 ho2 hg2 ha2)
    simp only [Nat.zero_add, List.nil_append] at ho2
    have k2 : Kept (fun _ => False) w1 w2 := Kept.grown ((Kept.refl _ _).alloc _) hg2 (fun i hi => by simp [Value.ownBlock] at hi; omega)
    have Z2 := k2.size
    obtain ⟨A4, c4, rfl, M4, hc4, hd4⟩ := myRow_of_owns (S := fun i => i < w1.heap.size) ho2 (fun g e => by have := (ho2.lt g e).1; omega)
    have I4 : IntsAt w2 (fun i => i < w1.heap.size) A4 L := by
      obtain ⟨a', c', e, i4, _, _⟩ := owns_ints (S := fun i => i < w1.heap.size) ho2 (fun g e => by have := (ho2.lt g e).1; omega)
      injection e with e1 _ _
      rw [e1]
      exact i4
    have R2 := R1.out.kept k2 (fun _ _ h => h)
    have s4 := (I4.src.sub (T := Foot w.heap.size none) (fun i hi => by
      rcases hi with hi | hi
      · have := HZ1.out; omega
      · cases hi))
    rw [L1.out] at s4
    have p4 := ri_push_any w.heap.size (len0 + 1) 0 len0 c4 none A4 [] _ w2 R2 s4 hc4 hd4
    rw [show min len0 (len0 + 1 - 0) = len0 by omega, Nat.mul_one, List.nil_append, Nat.zero_add, List.take_of_length_le (by rw [List.length_map, L1.out]; exact Nat.le_refl _)] at p4
    have P4 := Lib.hid p4
    have M4' := Lib.hid (M4.other (T := fun i => i < w1.heap.size ∨ w2.heap.size ≤ i) (fun i hi h => h.elim id (fun h => by omega)))
    have B2 : Below w.heap.size w w2 := Kept.below B1 k2 (fun _ h => h.elim) B1.size
    clear p4 s4 R2 I4 M4 ho2 hg2 ha2
    go_wp2_with fail
    refine P4.out.mono ?_
    rintro e w3 ⟨rfl, g3, r3, m3, k3⟩
    have F3 := foot_moved (foot_none (Nat.le_refl w.heap.size)) m3 B2.size
    have M5 : MyRow w3 (fun i => i < w.heap.size ∨ Foot w.heap.size g3 i) A4 len0 := by
      refine (M4'.out.kept k3 (fun i hi h => ?_)).other (fun i hi h => ?_)
      · rcases h with h | h
        · have := HZ1.out; omega
        · cases h
      · rcases h with h | h | h
        · have := HZ1.out; omega
        · have := HZ1.out; omega
        · rcases m3 i h.symm with h | h
          · cases h
          · omega
    have B3 : Below w.heap.size w w3 := Kept.below B2 k3 (foot_none (Nat.le_refl w.heap.size)) B2.size
    have R3 := Lib.hid r3
    have HF3 := Lib.hid F3
    have hSB : ∀ i, ¬ (i < w.heap.size ∨ Foot w.heap.size g3 i) → w.heap.size ≤ i := fun i hi => by
      rcases Nat.lt_or_ge i w.heap.size with h | h
      · exact absurd (.inl h) hi
      · exact h
    have HSB := Lib.hid hSB
    have hSF : ∀ i, Foot w.heap.size g3 i → ¬ ¬ (i < w.heap.size ∨ Foot w.heap.size g3 i) := fun i hi h => h (.inr hi)
    have HSF := Lib.hid hSF
    clear r3 m3 k3 F3 hSB hSF M4' P4
    go_wp2
    go_loopw [26] (fun s26 wr => ∃ k : Nat, k ≤ len0 ∧ s26 = .int .i64 k ∧ MyRow wr (fun i => i < w.heap.size ∨ Foot w.heap.size g3 i) A4 len0 ∧ Kept (fun i => ¬ (i < w.heap.size ∨ Foot w.heap.size g3 i)) w3 wr) (fun s26 _ => len0 - (intOf s26).toNat)
    case atStart => exact ⟨0, by omega, rfl, M5, Kept.refl _ _⟩
    case round =>
      clear M5
      obtain ⟨k, hk, rfl, M, K⟩ := hrel
      by_cases hkl : k < len0
      · obtain ⟨g4, x, rfl, hcell, hfro⟩ := M.cell hkl
        go_wp2
        go_roundw
        case rel => exact ⟨k + 1, by omega, by go_num, (M.set_ hkl _).1, K.trans (M.set_ hkl _).2 (fun _ _ h => h)⟩
        case measure => simp [intOf]; omega
      · obtain rfl : len0 = k := by omega
        have RR := R3.out.kept K HSF.out
        have BR := Kept.below B3 K HSB.out B3.size
        have hall := ri_all_any w.heap.size (len0 + 1) len0 g3 _ wr RR
        have HALL := Lib.hid hall
        have HRR := Lib.hid RR
        clear hall RR M K
        go_wp2_with fail
        refine HALL.out.mono ?_
        rintro e w4 ⟨rfl, hb4, bel4⟩
        have hh : ¬ (wr.heap.size < w.heap.size ∨ Foot w.heap.size g3 wr.heap.size) := by
          rintro (h | h)
          · have := BR.size; have := B1.size; omega
          · exact Nat.lt_irrefl _ (HRR.out.lt _ h)
        have M6 := myRow_of_blk (S := fun i => i < w.heap.size ∨ Foot w.heap.size g3 i) hb4 hh
        rw [L1.out] at M6
        have R4 := Lib.hid (HRR.out.kept (Kept.of_below (S := fun _ => False) bel4) (fun _ _ h => h))
        have B4 : Below w.heap.size w w4 := BR.trans (bel4.mono BR.size)
        clear hb4 bel4 BR hh
        go_wp2
        go_loopw [40] (fun s40 wq => ∃ j : Nat, j ≤ len0 ∧ s40 = .int .i64 j ∧ MyRow wq (fun i => i < w.heap.size ∨ Foot w.heap.size g3 i) (some ⟨wr.heap.size, 0, none⟩) len0 ∧ Kept (fun i => ¬ (i < w.heap.size ∨ Foot w.heap.size g3 i)) w4 wq) (fun s40 _ => len0 - (intOf s40).toNat)
        case atStart => exact ⟨0, by omega, rfl, M6, Kept.refl _ _⟩
        case round =>
          rename_i wq
          clear M6
          obtain ⟨j, hj, rfl, M, K⟩ := hrel
          by_cases hjl : j < len0
          · obtain ⟨g4, x, e4, hcell, hfro⟩ := M.cell hjl
            injection e4 with e4
            injection e4 with e4
            subst e4
            go_wp2
            go_roundw
            case rel => exact ⟨j + 1, by omega, by go_num, (M.set_ hjl _).1, K.trans (M.set_ hjl _).2 (fun _ _ h => h)⟩
            case measure => simp [intOf]; omega
          · obtain rfl : len0 = j := by omega
            have R5 := R4.out.kept K HSF.out
            have B5 := Kept.below B4 K HSB.out B4.size
            have R5' := Lib.hid R5
            clear M K R5
            go_wp2_with fail
            refine (alive_any _).mono ?_
            rintro e w6 ⟨rfl, hb6⟩
            have R6 := R5'.out.kept (Kept.of_below (S := fun _ => False) hb6) (fun _ _ h => h)
            have B6 := B5.trans (hb6.mono B5.size)
            have hall := ri_all_any w.heap.size (len0 + 1) len0 g3 _ w6 R6
            have HALL := Lib.hid hall
            clear hall R6 hb6
            go_wp2_with fail
            refine HALL.out.mono ?_
            rintro e w7 ⟨rfl, hb7, bel7⟩
            have B7 : Below w.heap.size w w7 := B6.trans (bel7.mono B6.size)
            have heq := equal_same (c := len0) (d := cap0) (IntsAt.of_blk (S := fun _ => False) hb7 id) (J1.out.kept (Kept.of_below (S := fun _ => False) B7) (fun _ _ h => h.elim)) L1.out (by omega)
            have HEQ := Lib.hid heq
            clear heq hb7 bel7
            go_wp2_with fail
            refine HEQ.out.mono ?_
            rintro e w8 ⟨rfl, q, rfl⟩
            go_wp2_with fail
            go_ret
            exact ⟨rfl, below_drewN B7 q⟩
end Go.Proofs.Yteldkihbgfgkoaa
