/- Sweep. -/
import Derived.Test.YtokkdeoimhibpaaIdx
import Derived.Test.YtokkdeoimhibpaaInts
import Derived.WalkMore
import Derived.Deep.LoopGhost
namespace Go.Proofs.Ytokkdeoimhibpaa
open Go Go.RowKit
set_option linter.unusedVariables false
set_option linter.unusedSimpArgs false

/-- A slice of bools that reads as L; its block is not one of S. -/
def Bools (w : World) (S : Nat → Prop) (a : Option Addr) (L : List Bool) : Prop :=
  0 < L.length → ∃ b off, a = some ⟨b, off, none⟩ ∧ ¬ S b ∧ b < w.heap.size ∧ ∀ j, j < L.length → w.cell? ⟨b, off + j, none⟩ = some (.bool (L.getD j false))
section
variable {w w' : World} {S T : Nat → Prop} {a : Option Addr} {L : List Bool}
theorem Bools.kept (h : Bools w S a L) (k : Kept T w w') (hT : ∀ i, i < w.heap.size → T i → S i) : Bools w' S a L := fun hl => by
  obtain ⟨b, off, e, hn, hb, hc⟩ := h hl
  exact ⟨b, off, e, hn, Nat.lt_of_lt_of_le hb k.size, fun j hj => k.cell (fun ht => hn (hT _ hb ht)) (hc j hj)⟩
theorem Bools.other (h : Bools w S a L) (hT : ∀ i, i < w.heap.size → T i → S i) : Bools w T a L := fun hl => by
  obtain ⟨b, off, e, hn, hb, hc⟩ := h hl
  exact ⟨b, off, e, fun ht => hn (hT _ hb ht), hb, hc⟩
theorem Bools.below (h : Bools w S a L) (hb : Below w.heap.size w w') : Bools w' S a L := fun hl => by
  obtain ⟨b, off, e, hn, hb2, hc⟩ := h hl
  exact ⟨b, off, e, hn, Nat.lt_of_lt_of_le hb2 hb.size, fun j hj => (hb.cell (p := ⟨b, off + j, none⟩) hb2).trans (hc j hj)⟩
theorem Bools.of_blk {g : Nat} {t : TypeId} (h : Blk w g t (L.map Value.bool).toArray) (hn : ¬ S g) : Bools w S (some ⟨g, 0, none⟩) L := fun hl =>
  ⟨g, 0, rfl, hn, h.lt, fun j hj => by
    rw [Nat.zero_add, h.cell, List.getElem?_toArray, List.getElem?_map, List.getD_eq_getElem?_getD, List.getElem?_eq_getElem hj]
    rfl⟩
end

theorem owns_kept {w w' : World} {S : Nat → Prop} {base n size : Nat} {e : TypeId} {v : Value} {xs : List Value} (h : w.ownsRow base e size v n xs) (k : Kept S w w') (hn : ∀ g, v.ownBlock = some g → ¬ S g) : w'.ownsRow base e size v n xs := by
  obtain ⟨h1, h2⟩ := h
  refine ⟨h1, ?_⟩
  rcases h2 with h2 | ⟨g, cap, cur, rfl, h3, h4, h5⟩
  · exact .inl h2
  · exact .inr ⟨g, cap, cur, rfl, h3, Blk.kept (w := w) h4 k (hn g rfl), h5⟩
theorem owns_any {w : World} {base n : Nat} {v : Value} {xs : List Value} (h : w.ownsRow base 3 1 v n xs) : ∃ a cp, v = .slice a n cp := by
  rcases h.2 with ⟨rfl, rfl⟩ | ⟨g, cp, cur, rfl, _⟩
  · exact ⟨none, 0, rfl⟩
  · exact ⟨_, cp, rfl⟩

/-- What a sweep leaves: it has stopped behind m visits; the paid indices lie in new memory; the cursor has moved; nothing else has turned. -/
def SweepPost (w : World) (c s : Nat) (L : List Bool) (v p : Int) (e : Ending) (w' : World) : Prop :=
  ∃ (m : Nat) (a : Option Addr) (cp : Nat), e = .returned (.tuple #[.slice a (paidZ L s m).length cp, .int .i64 m]) ∧ Stop L s v p m ∧ Hid (IntsAt w' (fun i => i < w.heap.size) a (paidZ L s m)) ∧ Hid (Cur w' c (posN L.length s m)) ∧ Kept (fun i => i = c) w w'

theorem sweep_nil (a : Option Addr) (n cap : Nat) (v p : Int) (w : World) : Calls Try.prog 13 #[.pointer none, .slice a n cap, .int .i64 v, .int .i64 p] w fun e w' => e = .returned (.tuple #[.slice none 0 0, .int .i64 0]) ∧ w = w' := by
  go_enter Try.func13, Try.ntmps13
  go_wp2
  go_step3
  go_wp2
  try rw [Exit.noGoto_ret]
  go_ret2
  exact ⟨rfl, rfl⟩

set_option maxHeartbeats 1600000 in
theorem sweep_any (c s : Nat) (a : Option Addr) (cap : Nat) (L : List Bool) (v p : Int) (w : World) (hc : Cur w c s) (hs : s ≤ 100) (hL : L.length ≤ 100) (hb : Bools w (fun i => i = c) a L) :
    Calls Try.prog 13 #[.pointer (some ⟨c, 0, none⟩), .slice a L.length cap, .int .i64 v, .int .i64 p] w (SweepPost w c s L v p) := by
  obtain ⟨i0, hi, hz0, hz1, hz2⟩ := int_app
  obtain ⟨n, hn⟩ : ∃ n, L.length = n := ⟨_, rfl⟩
  rw [hn] at hL
  rw [hn]
  have HN := Lib.hid hn
  have HC := Lib.hid hc
  have HB := Lib.hid hb
  have H := Lib.hid (fun w => indices_any c n w)
  have hcl := hc.lt
  clear hn hc hb
  go_enter Try.func13, Try.ntmps13
  go_wp2
  go_step3
  go_wp2_with fail
  refine (H.out _).mono ?_
  rintro e w1 ⟨rfl, rfl⟩
  go_wp2_with fail
  go_step3
  go_wp2
  have HP : Hid (Blk ((w.alloc (.cells #[.pointer (some ⟨c, 0, none⟩)] 23)).alloc (.cells #[.int .i64 n] 3)) w.heap.size 23 #[.pointer (some ⟨c, 0, none⟩)]) := Lib.hid ((Blk.new w _ _).alloc _)
  have HQ : Hid (Blk ((w.alloc (.cells #[.pointer (some ⟨c, 0, none⟩)] 23)).alloc (.cells #[.int .i64 n] 3)) (w.heap.size + 1) 3 #[.int .i64 n]) := Lib.hid (by have := Blk.new (w.alloc (.cells #[.pointer (some ⟨c, 0, none⟩)] 23)) 3 #[.int .i64 (n : Int)]; simpa using this)
  have HK : Hid (Kept (fun i => i = c) w ((w.alloc (.cells #[.pointer (some ⟨c, 0, none⟩)] 23)).alloc (.cells #[.int .i64 n] 3)) ∧ w.heap.size + 2 ≤ ((w.alloc (.cells #[.pointer (some ⟨c, 0, none⟩)] 23)).alloc (.cells #[.int .i64 n] 3)).heap.size) := Lib.hid ⟨((Kept.refl _ w).alloc _).alloc _, by simp⟩
  have HC1 := Lib.hid ((HC.out.alloc (.cells #[.pointer (some ⟨c, 0, none⟩)] 23)).alloc (.cells #[.int .i64 (n : Int)] 3))
  clear HC H
  generalize hz : w.heap.size = z at *
  have HZ := Lib.hid hz
  clear hz
  go_loopg [10, 11] n (fun g s10 s11 wr => ∃ (k q : Nat) (a1 : Option Addr) (c1 : Nat), k + g = n ∧ q ≤ k ∧ s10 = .slice a1 q c1 ∧ s11 = .int .i64 k ∧ Hid ((paidZ L s k).length = q ∧ wr.ownsRow (z + 2) 3 1 (.slice a1 q c1) q ((paidZ L s k).map (Value.int .i64))) ∧
    Hid (∀ j, j < k → (j : Int) < v ∧ j < n ∧ ((paidN L s j).length : Int) < p) ∧ Hid (Cur wr c (posN n s k)) ∧ Hid (Blk wr z 23 #[.pointer (some ⟨c, 0, none⟩)] ∧ Blk wr (z + 1) 3 #[.int .i64 n]) ∧ Hid (Kept (fun i => i = c) w wr ∧ z + 2 ≤ wr.heap.size))
  case atStart => exact ⟨0, 0, none, 0, by omega, by omega, rfl, rfl, Lib.hid ⟨rfl, World.ownsRow_nil _ _ _ _⟩, Lib.hid (fun j hj => by omega), HC1, Lib.hid ⟨HP.out, HQ.out⟩, HK⟩
  case round =>
    obtain ⟨k, q, a1, c1, hkg, hqk, rfl, rfl, HO, HS, HC, HBL, HKK⟩ := hrel
    clear HC1 HP HQ HK
    have hend : ∀ m, m = k → (v ≤ (k : Int) ∨ n ≤ k ∨ p ≤ (q : Int)) → SweepPost w c s L v p (.returned (.tuple #[.slice a1 q c1, .int .i64 k])) wr := by
      rintro m rfl hst
      have h1 := HO.out.1
      obtain ⟨a2, c2, e, _, _, _, hi2⟩ := ints_of_owns (S := fun i => i < w.heap.size) HO.out.2 (fun i hi => by
        have := HO.out.2.2
        rcases this with ⟨e, _⟩ | ⟨g, cp, cur, e, hb, _⟩
        · rw [e] at hi; cases hi
        · rw [e] at hi; injection hi with hi; subst hi; have hb' : z + 2 ≤ g := hb; show ¬ g < _; rw [HZ.out]; omega)
      injection e with e1 _ e2
      subst e1 e2
      refine ⟨m, a1, c1, by rw [h1], ⟨by rw [HN.out, ← paidZ_len, h1]; exact hst, by rw [HN.out]; exact HS.out⟩, Lib.hid hi2, Lib.hid (by rw [HN.out]; exact HC.out), HKK.out.1⟩
    by_cases h1 : v ≤ (k : Int)
    · have he := Lib.hid (hend k rfl (.inl h1))
      clear hend
      go_wp2
      try rw [Exit.noGoto_ret]
      go_ret2
      exact he.out
    by_cases h2 : n ≤ k
    · have he := Lib.hid (hend k rfl (.inr (.inl h2)))
      clear hend
      go_wp2
      try rw [Exit.noGoto_ret]
      go_ret2
      exact he.out
    by_cases h3 : p ≤ (q : Int)
    · have he := Lib.hid (hend k rfl (.inr (.inr h3)))
      clear hend
      go_wp2
      try rw [Exit.noGoto_ret]
      go_ret2
      exact he.out
    clear hend
    obtain ⟨i, hi'⟩ : ∃ i, (s + k) % n = i := ⟨_, rfl⟩
    have hil : i < n := by rw [← hi']; exact Nat.mod_lt _ (by omega)
    have H1 : Hid (Calls Try.prog 22 #[.pointer (some ⟨z, 0, none⟩), .pointer (some ⟨z + 1, 0, none⟩)] wr fun e w' => e = .returned (.int .i64 (i : Int)) ∧ Hid (Cur w' c (posN n s (k + 1))) ∧ Hid (Kept (fun i => i = c) wr w')) := Lib.hid (by
      refine (next_any z (z + 1) c (posN n s k) n wr HBL.out.1 HBL.out.2 HC.out (posN_le (by omega) hs (by omega)) (by omega) (by omega)).mono ?_
      rintro e w' ⟨he, h2, h3⟩
      rw [posN_mod] at he h2
      rw [posN_succ] at h2
      exact ⟨by rw [he, hi'], Lib.hid h2, Lib.hid h3⟩)
    have HI := Lib.hid hi'
    clear hi'
    obtain ⟨b, off, ha, hbc, hbl, hcell⟩ := HB.out (by rw [HN.out]; omega)
    subst ha
    have hx := hcell i (by rw [HN.out]; omega)
    obtain ⟨r, hr⟩ : ∃ r, L.getD i false = r := ⟨_, rfl⟩
    rw [hr] at hx
    have HR := Lib.hid hr
    have HX := Lib.hid hx
    clear hcell hx hr
    have HSN : Hid (∀ j, j < k + 1 → (j : Int) < v ∧ j < n ∧ ((paidN L s j).length : Int) < p) := Lib.hid (by
      have := stop_run (L := L) (s := s) (v := v) (p := p) (m := k) (by rw [HN.out]; exact HS.out) (by omega) (by rw [HN.out]; omega) (by rw [← paidZ_len, HO.out.1]; omega)
      rw [HN.out] at this
      exact this)
    go_wp2_with fail
    refine H1.out.mono ?_
    rintro e w1 ⟨rfl, HC1, HK1⟩
    have hx1 : w1.cell? ⟨b, off + i, none⟩ = some (.bool r) := HK1.out.cell hbc (HKK.out.1.cell hbc HX.out)
    have HO1 : Hid (w1.ownsRow (z + 2) 3 1 (.slice a1 q c1) q ((paidZ L s k).map (Value.int .i64))) := Lib.hid (owns_kept HO.out.2 HK1.out (fun g hg e => by
      have := (HO.out.2.lt g hg).1
      omega))
    have HBL1 : Hid (Blk w1 z 23 #[.pointer (some ⟨c, 0, none⟩)] ∧ Blk w1 (z + 1) 3 #[.int .i64 n]) := Lib.hid ⟨HBL.out.1.kept HK1.out (by omega), HBL.out.2.kept HK1.out (by omega)⟩
    have HKK1 : Hid (Kept (fun i => i = c) w w1 ∧ z + 2 ≤ w1.heap.size) := Lib.hid ⟨HKK.out.1.trans HK1.out (fun _ _ h => h), Nat.le_trans HKK.out.2 HK1.out.size⟩
    have HL := Lib.hid HO.out.1
    clear HC HBL HKK HO HX HK1 H1 HS
    cases r
    · have HM : Hid ((paidZ L s (k + 1)).length = q ∧ paidZ L s (k + 1) = paidZ L s k) := Lib.hid (by
        have := paidZ_miss (L := L) (s := s) (k := k) (by rw [HN.out, HI.out]; exact HR.out)
        exact ⟨by rw [this]; exact HL.out, this⟩)
      have HO2 : Hid ((paidZ L s (k + 1)).length = q ∧ w1.ownsRow (z + 2) 3 1 (.slice a1 q c1) q ((paidZ L s (k + 1)).map (Value.int .i64))) := Lib.hid ⟨HM.out.1, by rw [HM.out.2]; exact HO1.out⟩
      clear HO1 HM HR HL
      go_wp2
      go_roundg (gk - 1)
      case measure => omega
      case rel => exact ⟨k + 1, q, a1, c1, by omega, by omega, rfl, by go_num, HO2, HSN, HC1, HBL1, HKK1⟩
    · have HM : Hid ((paidZ L s (k + 1)).length = q + 1 ∧ paidZ L s (k + 1) = paidZ L s k ++ [(i : Int)]) := Lib.hid (by
        have := paidZ_hit (L := L) (s := s) (k := k) (by rw [HN.out, HI.out]; exact HR.out)
        rw [HN.out, HI.out] at this
        exact ⟨by rw [this, List.length_append, HL.out]; rfl, this⟩)
      go_wp2_with (at_builtin; refine wpList_append_own _ rfl _ _ 30 rfl (z + 2) 3 i0 (.int .i64 0) 1 8 Try.underlying30 hi hz0 hz1 hz2 rfl (by decide) _ _ _ rfl (HO1.out.alloc _) ⟨w1.heap.size, 0, none⟩ 1 1 [.int .i64 (i : Int)] rfl rfl ?c1 ?c2 ?c3 ?c4 ?c5 ?_)
      case c1 =>
        intro j u hj
        match j, hj with
        | 0, hj => simp at hj; subst hj; simp [Addr.add]
      case c2 => intro u hu; simp at hu; subst hu; rfl
      case c3 => unfold maxLen; omega
      case c4 => omega
      case c5 => have := HKK1.out.2; simp; omega
      intro v' w2 hown2 hgrow _
      have hgr : Blk w2 z 23 #[.pointer (some ⟨c, 0, none⟩)] ∧ Blk w2 (z + 1) 3 #[.int .i64 n] ∧ Cur w2 c (posN n s (k + 1)) ∧ Kept (fun i => i = c) w w2 ∧ z + 2 ≤ w2.heap.size := by
        have hne : ∀ i, i < z + 2 → some i ≠ (Value.slice a1 q c1).ownBlock := fun i hi e => by
          have := (HO1.out.lt i e.symm).1
          omega
        have hsz := hgrow.size
        refine ⟨((HBL1.out.1.alloc _).grown hgrow (hne z (by omega))), ((HBL1.out.2.alloc _).grown hgrow (hne (z + 1) (by omega))), (Blk.grown (Blk.alloc HC1.out _) hgrow (hne c (by omega))), ?_, ?_⟩
        · have k1 : Kept (fun i => z ≤ i) w1 w2 := ((Kept.refl _ w1).alloc _).trans (Kept.of_grown (S := fun i => z ≤ i) hgrow (fun i e => by
            have := (HO1.out.lt i e.symm).1
            omega)) (fun _ _ h => h)
          exact HKK1.out.1.trans k1 (fun i h1 h2 => by rw [HZ.out] at h1; omega)
        · have := HKK1.out.2
          simp at hsz
          omega
      have HBL2 : Hid (Blk w2 z 23 #[.pointer (some ⟨c, 0, none⟩)] ∧ Blk w2 (z + 1) 3 #[.int .i64 n]) := Lib.hid ⟨hgr.1, hgr.2.1⟩
      have HC2 : Hid (Cur w2 c (posN n s (k + 1))) := Lib.hid hgr.2.2.1
      have HKK2 : Hid (Kept (fun i => i = c) w w2 ∧ z + 2 ≤ w2.heap.size) := Lib.hid hgr.2.2.2
      obtain ⟨a2, c2, rfl⟩ := owns_any hown2
      have HO2 : Hid ((paidZ L s (k + 1)).length = q + 1 ∧ w2.ownsRow (z + 2) 3 1 (.slice a2 (q + 1) c2) (q + 1) ((paidZ L s (k + 1)).map (Value.int .i64))) := Lib.hid ⟨HM.out.1, by rw [HM.out.2, List.map_append]; exact hown2⟩
      clear hgr hgrow hown2 HO1 HM HR HL HBL1 HC1 HKK1 hx1
      go_wp2
      go_roundg (gk - 1)
      case measure => omega
      case rel => exact ⟨k + 1, q + 1, a2, c2, by omega, by omega, rfl, by go_num, HO2, HSN, HC2, HBL2, HKK2⟩
end Go.Proofs.Ytokkdeoimhibpaa
