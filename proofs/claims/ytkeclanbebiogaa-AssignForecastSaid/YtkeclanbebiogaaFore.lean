/- Forecast. -/
import Derived.Test.YtkeclanbebiogaaFtake
import Derived.Test.YtkeclanbebiogaaBase2
import Derived.Test.YtkeclanbebiogaaRow
import Derived.Deep.LoopGhost
import Derived.Deep.CutBlock
import Derived.Outline
namespace Go.Proofs.Ytkeclanbebiogaa
open Go Go.RowKit
set_option linter.unusedVariables false
set_option linter.unusedSimpArgs false
set_option maxRecDepth 100000

/-- A list of boundaries that are told for the first exits. -/
def Told (bal lim : Int) (z L : List Int) (k : Nat) : Prop := L.length = k ∧ ∀ i, i < k → Fc bal lim (sumTo z (i + 1)) (L.getD i 0)
theorem Told.snoc {bal lim v : Int} {z L : List Int} {k : Nat} (h : Told bal lim z L k) (hv : Fc bal lim (sumTo z (k + 1)) v) : Told bal lim z (L ++ [v]) (k + 1) := by
  obtain ⟨h1, h2⟩ := h
  refine ⟨by simp [h1], fun i hi => ?_⟩
  rw [List.getD_eq_getElem?_getD]
  by_cases h : i < k
  · rw [List.getElem?_append_left (by omega), ← List.getD_eq_getElem?_getD]
    exact h2 i h
  · obtain rfl : i = k := by omega
    rw [List.getElem?_append_right (by omega), h1]
    simpa using hv
theorem made_none : madeCells #[Value.int .i64 0] = madeCells #[.int .i64 0] := rfl
theorem owns_made {w : World} {e : TypeId} {cs : Array Value} {base n : Nat} (hb : base ≤ w.heap.size) (hn : n ≤ 9223372036854775807) (hs : cs.size = n) : (w.alloc (.cells cs e)).ownsRow base e 1 (.slice (some ⟨w.heap.size, 0, none⟩) 0 n) 0 [] :=
  ⟨by simp, .inr ⟨w.heap.size, n, cs, rfl, hb, Blk.new _ _ _, Nat.zero_le _, by unfold maxLen; omega, by simp [hs], by simp⟩⟩
theorem owns_slice'' {w : World} {base n size : Nat} {e : TypeId} {v : Value} {xs : List Value} (h : w.ownsRow base e size v n xs) : ∃ a cp, v = .slice a n cp := by
  rcases h.2 with ⟨rfl, rfl⟩ | ⟨g, cp, cur, rfl, _⟩
  · exact ⟨none, 0, rfl⟩
  · exact ⟨_, cp, rfl⟩
theorem owns_drewN {w : World} {base n size : Nat} {e : TypeId} {v : Value} {xs : List Value} (h : w.ownsRow base e size v n xs) (m : Nat) : (w.drewN m).ownsRow base e size v n xs := h
theorem owns_low {w : World} {base base' n size : Nat} {e : TypeId} {v : Value} {xs : List Value} (h : w.ownsRow base e size v n xs) (hb : base' ≤ base) : w.ownsRow base' e size v n xs := by
  obtain ⟨h1, h2⟩ := h
  refine ⟨h1, ?_⟩
  rcases h2 with h2 | ⟨g, cap, cur, rfl, h3, h4⟩
  · exact .inl h2
  · exact .inr ⟨g, cap, cur, rfl, Nat.le_trans hb h3, h4⟩
/-- What Forecast hands back. -/
def ForePost (w : World) (bal lim : Int) (z : List Int) (e : Ending) (w' : World) : Prop :=
  ∃ a c L, e = .returned (.slice a z.length c) ∧ Told bal lim z L z.length ∧ Hid (w'.ownsRow w.heap.size 3 1 (.slice a z.length c) z.length (L.map (Value.int .i64))) ∧ Below w.heap.size w w'
section
variable {w : World} {S : Nat → Prop} {wa : Option Addr} {z : List Int} {cap : Nat} {bal lim : Int}
set_option maxHeartbeats 3200000 in
theorem forecast_any (hu : UAt w S wa z) (hz : Amts z) (hn : z.length ≤ 100000) (b0 : 0 ≤ bal) (b1 : bal ≤ 18446744073709551615) (l0 : 0 ≤ lim) (l1 : lim ≤ 18446744073709551615) :
    Calls Try.prog 25 #[.int .u64 bal, .int .u64 lim, .slice wa z.length cap] w (ForePost w bal lim z) := by
  obtain ⟨j0, hj0, hz0, hz1, hz2⟩ := int_app
  obtain ⟨n, hn'⟩ : ∃ n, z.length = n := ⟨_, rfl⟩
  have hmk := fun w => run_make_rowN (P := Try.prog) 31 3 j0 _ Try.underlying31 hj0 hz0 .i64 .i64 0 n (Nat.zero_le _) (by rw [hz2]; omega) (by omega) w
  rw [hz1, Nat.mul_one] at hmk
  have hcs : (Value.int .i64 0).cells = #[.int .i64 0] := rfl
  rw [hcs] at hmk
  simp only [Int.natCast_zero, Int.ofNat_zero] at hmk
  have HU := Lib.hid hu
  have HZ := Lib.hid hz
  have HN := Lib.hid hn'
  have HB := Lib.hid (And.intro b0 b1)
  have HL := Lib.hid (And.intro l0 l1)
  have H0 : Hid (FAt ((w.alloc (.cells #[.int .u64 bal, .int .u64 lim, .int .u64 0] 100)).alloc (.cells (madeCells #[.int .i64 0] n) 3)) w.heap.size bal lim 0) := Lib.hid ((Blk.new w _ _).alloc _)
  have HO : Hid (((w.alloc (.cells #[.int .u64 bal, .int .u64 lim, .int .u64 0] 100)).alloc (.cells (madeCells #[.int .i64 0] n) 3)).ownsRow (w.heap.size + 1) 3 1 (.slice (some ⟨w.heap.size + 1, 0, none⟩) 0 n) 0 []) := Lib.hid (by
    have := owns_made (w := w.alloc (.cells #[.int .u64 bal, .int .u64 lim, .int .u64 0] 100)) (e := 3) (cs := madeCells #[.int .i64 0] n) (base := w.heap.size + 1) (n := n) (by simp) (by omega) (by simp [madeCells])
    simpa using this)
  have HW : Hid (Below w.heap.size w ((w.alloc (.cells #[.int .u64 bal, .int .u64 lim, .int .u64 0] 100)).alloc (.cells (madeCells #[.int .i64 0] n) 3)) ∧ w.heap.size + 1 ≤ ((w.alloc (.cells #[.int .u64 bal, .int .u64 lim, .int .u64 0] 100)).alloc (.cells (madeCells #[.int .i64 0] n) 3)).heap.size) := Lib.hid ⟨((Below.refl _ _).alloc (Nat.le_refl _) _).alloc (by simp) _, by simp⟩
  rw [hn'] at hn ⊢
  clear hu hz hn' b0 b1 l0 l1 hcs
  go_enter Try.func25, Try.ntmps25
  go_upto_block 0 with fail
  clear hmk
  generalize (w.alloc (.cells #[.int .u64 bal, .int .u64 lim, .int .u64 0] 100)).alloc (.cells (madeCells #[.int .i64 0] n) 3) = w1 at *
  generalize hq : w.heap.size = q at *
  have HQ := Lib.hid hq
  clear hq
  go_cut [8] from 9 to 33 (fun s8 wx => ∃ (k : Nat) (a : Option Addr) (c : Nat) (L : List Int), k ≤ n ∧ s8 = .slice a k c ∧ Hid (Told bal lim z L k) ∧ Hid (wx.ownsRow (q + 1) 3 1 (.slice a k c) k (L.map (Value.int .i64))) ∧ Hid (k = n ∨ bal + 2147483648 * lim < sumTo z (k + 1)) ∧ Hid (Below q w wx ∧ q + 1 ≤ wx.heap.size))
  case first =>
    go_wp2
    go_loopw [8, 19] (fun s8 s19 wr => ∃ (k : Nat) (a : Option Addr) (c : Nat) (L : List Int) (B g : Int), k ≤ n ∧ s19 = .int .i64 k ∧ s8 = .slice a k c ∧ Hid (Told bal lim z L k) ∧ Hid (wr.ownsRow (q + 1) 3 1 (.slice a k c) k (L.map (Value.int .i64))) ∧ Hid (FAt wr q B lim g) ∧ Hid (TInv bal lim z k B g) ∧ Hid (Below q w wr ∧ q + 1 ≤ wr.heap.size)) (fun _ s19 _ => n - (intOf s19).toNat)
    case atStart => exact ⟨0, _, _, [], bal, 0, by omega, rfl, rfl, Lib.hid ⟨rfl, fun i hi => by omega⟩, HO, H0, Lib.hid ⟨by show bal = bal + 0 * lim - 0; omega, HB.out.1, HB.out.2, by omega, by omega, .inl rfl⟩, HW⟩
    case round =>
      clear HO H0 HW
      obtain ⟨k, a, c, L, B, g, hk, rfl, rfl, HT, HO, HF, HI, HW⟩ := hrel
      by_cases hlt : k < n
      · obtain ⟨b, off, rfl, _, hb, hc⟩ := HU.out (by rw [HN.out]; omega)
        have hcell : wr.cell? ⟨b, off + k, none⟩ = some (.int .u64 (z.getD k 0)) := (HW.out.1.cell (p := ⟨b, off + k, none⟩) (by rw [← HQ.out]; exact hb)).trans (hc k (by rw [HN.out]; exact hlt))
        have hx := HZ.out k
        obtain ⟨i1, i2, i3, i4, i5, i6⟩ := HI.out
        clear hc hb i1 i6
        have key : (∃ B' g', Calls Try.prog 50 #[.pointer (some ⟨q, 0, none⟩), .int .u64 (z.getD k 0)] wr (fun e w' => e = .returned (.bool true) ∧ FAt w' q B' lim g' ∧ wr.grownBy w' (some q)) ∧ TInv bal lim z (k + 1) B' g' ∧ Fc bal lim (sumTo z (k + 1)) (mx g')) ∨
            (Calls Try.prog 50 #[.pointer (some ⟨q, 0, none⟩), .int .u64 (z.getD k 0)] wr (fun e w' => e = .returned (.bool false) ∧ ∃ m, w' = wr.drewN m) ∧ bal + 2147483648 * lim < sumTo z (k + 1)) := by
          by_cases h1 : z.getD k 0 ≤ B
          · have h2 := HI.out.fit HL.out.1 hx.1 h1
            exact .inl ⟨_, _, ftake_fit HF.out hx.1 h1 i3, h2.1, h2.2⟩
          · by_cases h2 : lim = 0
            · refine .inr ⟨?_, HI.out.never0 h2 (by omega)⟩
              subst h2
              exact ftake_zero HF.out i2 (by omega) hx.2
            · by_cases h3 : 2147483648 - g < ceilQ (z.getD k 0 - B) lim
              · exact .inr ⟨ftake_far HF.out i2 (by omega) hx.2 (by have := HL.out.1; omega) HL.out.2 i4 i5 h3, HI.out.never1 (by have := HL.out.1; omega) (by omega) h3⟩
              · have h4 := HI.out.go (by have := HL.out.1; omega) HL.out.2 (by omega) h3
                exact .inl ⟨_, _, ftake_go HF.out i2 (by omega) hx.2 (by have := HL.out.1; omega) HL.out.2 i4 i5 h3 rfl h4.1.2.1 h4.1.2.2.1 rfl (by omega), h4.1, h4.2.1⟩
        have KEY := Lib.hid key
        clear key hx i2 i3 i4 i5
        generalize z.getD k 0 = x at *
        rcases KEY.out with ⟨B', g', hcall, hI', hFc⟩ | ⟨hcall, hn2⟩
        · have HC := Lib.hid hcall
          have HI' := Lib.hid hI'
          have HFc := Lib.hid hFc
          clear hcall hI' hFc KEY HF HI
          go_wp2_with fail
          refine HC.out.mono ?_
          rintro e w2 ⟨rfl, hf2, hg2⟩
          have hc2 : w2.cell? ⟨q, 2, none⟩ = some (.int .u64 g') := Blk.cell hf2 2
          have HF2 := Lib.hid hf2
          have HO2 : Hid (w2.ownsRow (q + 1) 3 1 (.slice a k c) k (L.map (Value.int .i64))) := Lib.hid (owns_kept HO.out (Kept.of_grown (S := fun i => i = q) hg2 (fun i e => by injection e)) (fun i hi e => by have := (HO.out.lt i hi).1; have : i = q := e; omega))
          have HW2 : Hid (Below q w w2 ∧ q + 1 ≤ w2.heap.size) := Lib.hid ⟨below_only HW.out.1 hg2 (by have := HW.out.2; omega) (Nat.le_refl _), by have := hg2.size; have := HW.out.2; omega⟩
          clear hf2 hg2 HC HO HW hcell
          have hg0 : 0 ≤ g' := HI'.out.2.2.2.1
          have hg1 : g' ≤ 2147483648 := HI'.out.2.2.2.2.1
          have hmx := mx_max g'
          obtain ⟨hv0, hv1⟩ := mx_bound hg1
          have hT2 := HT.out.snoc HFc.out
          generalize mx g' = v at *
          have HT2 := Lib.hid hT2
          clear hT2 HT HFc
          have HO3 : Hid ((w2.alloc (.cells #[.int .i64 v] 3)).ownsRow (q + 1) 3 1 (.slice a k c) k (L.map (Value.int .i64)) ∧ FAt (w2.alloc (.cells #[.int .i64 v] 3)) q B' lim g' ∧ Below q w (w2.alloc (.cells #[.int .i64 v] 3)) ∧ q + 1 ≤ w2.heap.size) := Lib.hid ⟨HO2.out.alloc _, Blk.alloc HF2.out _, HW2.out.1.alloc (by have := HW2.out.2; omega) _, HW2.out.2⟩
          clear HO2 HF2 HW2
          go_wp2_with (at_builtin; refine wpList_append_own _ rfl (.tmp 26) (.tmp 31) 31 rfl (q + 1) 3 j0 (.int .i64 0) 1 8 Try.underlying31 hj0 hz0 hz1 hz2 rfl (by decide) _ _ _ rfl HO3.out.1 ⟨w2.heap.size, 0, none⟩ 1 1 [.int .i64 v] rfl rfl ?c1 ?c2 ?c3 ?c4 ?c5 ?_)
          case c1 =>
            intro j u hj
            match j, hj with
            | 0, hj => simp at hj; subst hj; simp [Addr.add]
          case c2 => intro u hu; simp at hu; subst hu; rfl
          case c3 => unfold maxLen; omega
          case c4 => omega
          case c5 => have := HO3.out.2.2.2; simp; omega
          intro v' w3 hown3 hgrow3 _
          have hbl : ∀ i, (Value.slice a k c).ownBlock = some i → q + 1 ≤ i := fun i hi => (HO3.out.1.lt i hi).1
          have HO4 : Hid (w3.ownsRow (q + 1) 3 1 v' (k + 1) ((L ++ [v]).map (Value.int .i64))) := Lib.hid (by rw [List.map_append]; exact hown3)
          have HF4 : Hid (FAt w3 q B' lim g') := Lib.hid (Blk.grown HO3.out.2.1 hgrow3 (fun e => by have := hbl q (Eq.symm e); omega))
          have HW4 : Hid (Below q w w3 ∧ q + 1 ≤ w3.heap.size) := Lib.hid ⟨HO3.out.2.2.1.grown hgrow3 (by have := HO3.out.2.2.2; simp; omega) (fun i hi => by have := hbl i hi; omega), by have := hgrow3.size; have := HO3.out.2.2.2; simp at *; omega⟩
          obtain ⟨a2, c2, rfl⟩ := owns_slice'' hown3
          clear hown3 hgrow3 HO3 hbl hc2 hg0 hg1 hmx hv0 hv1
          go_wp2
          go_roundw
          case rel => exact ⟨k + 1, a2, c2, L ++ [v], B', g', by omega, by go_num, rfl, HT2, HO4, HF4, HI', HW4⟩
          case measure => simp [intOf]; omega
        · have HC := Lib.hid hcall
          have HN2 : Hid (k = n ∨ bal + 2147483648 * lim < sumTo z (k + 1)) := Lib.hid (.inr hn2)
          clear hcall hn2 KEY HF HI
          go_wp2_with fail
          refine HC.out.mono ?_
          rintro e w2 ⟨rfl, m, rfl⟩
          clear HC
          go_wp2
          go_meet
          exact ⟨k, a, c, L, hk, rfl, HT, Lib.hid (owns_drewN HO.out m), HN2, Lib.hid ⟨below_drewN HW.out.1 m, HW.out.2⟩⟩
      · obtain rfl : k = n := by omega
        clear hlt
        have hlt : ¬ k < k := by omega
        clear HF HI
        go_wp2
        go_meet
        exact ⟨k, a, c, L, Nat.le_refl _, rfl, HT, HO, Lib.hid (.inl rfl), HW⟩
  case rest =>
    clear HO H0 HW
    obtain ⟨k0, a, c, L, hk0, rfl, HT, HO, HS, HW⟩ := hcut
    go_wp2
    go_loopg [8] (n - k0) (fun g s8 wr => ∃ (k : Nat) (a : Option Addr) (c : Nat) (L : List Int), k + g = n ∧ k0 ≤ k ∧ s8 = .slice a k c ∧ Hid (Told bal lim z L k) ∧ Hid (wr.ownsRow (q + 1) 3 1 (.slice a k c) k (L.map (Value.int .i64))) ∧ Hid (Below q w wr ∧ q + 1 ≤ wr.heap.size))
    case atStart => exact ⟨k0, a, c, L, by omega, Nat.le_refl _, rfl, HT, HO, HW⟩
    case round =>
      clear HT HO HW
      obtain ⟨k, a, c, L, hkg, hk1, rfl, HT, HO, HW⟩ := hrel
      by_cases hlt : k < n
      · have HT2 : Hid (Told bal lim z (L ++ [-1]) (k + 1)) := Lib.hid (HT.out.snoc (.inr ⟨rfl, by
          rcases HS.out with h | h
          · omega
          · have := sumTo_mono (fun i => (HZ.out i).1) (k0 + 1) (k - k0)
            rw [show k0 + 1 + (k - k0) = k + 1 by omega] at this
            omega⟩))
        have HO3 : Hid ((wr.alloc (.cells #[.int .i64 (-1)] 3)).ownsRow (q + 1) 3 1 (.slice a k c) k (L.map (Value.int .i64)) ∧ Below q w (wr.alloc (.cells #[.int .i64 (-1)] 3)) ∧ q + 1 ≤ wr.heap.size) := Lib.hid ⟨HO.out.alloc _, HW.out.1.alloc (by have := HW.out.2; omega) _, HW.out.2⟩
        clear HT HO HW
        go_wp2_with (at_builtin; refine wpList_append_own _ rfl (.tmp 39) (.tmp 40) 31 rfl (q + 1) 3 j0 (.int .i64 0) 1 8 Try.underlying31 hj0 hz0 hz1 hz2 rfl (by decide) _ _ _ rfl HO3.out.1 ⟨wr.heap.size, 0, none⟩ 1 1 [.int .i64 (-1)] rfl rfl ?d1 ?d2 ?d3 ?d4 ?d5 ?_)
        case d1 =>
          intro j u hj
          match j, hj with
          | 0, hj => simp at hj; subst hj; simp [Addr.add]
        case d2 => intro u hu; simp at hu; subst hu; rfl
        case d3 => unfold maxLen; omega
        case d4 => omega
        case d5 => have := HO3.out.2.2; simp; omega
        intro v' w3 hown3 hgrow3 _
        have hbl : ∀ i, (Value.slice a k c).ownBlock = some i → q + 1 ≤ i := fun i hi => (HO3.out.1.lt i hi).1
        have HO4 : Hid (w3.ownsRow (q + 1) 3 1 v' (k + 1) ((L ++ [-1]).map (Value.int .i64))) := Lib.hid (by rw [List.map_append]; exact hown3)
        have HW4 : Hid (Below q w w3 ∧ q + 1 ≤ w3.heap.size) := Lib.hid ⟨HO3.out.2.1.grown hgrow3 (by have := HO3.out.2.2; simp; omega) (fun i hi => by have := hbl i hi; omega), by have := hgrow3.size; have := HO3.out.2.2; simp at *; omega⟩
        obtain ⟨a2, c2, rfl⟩ := owns_slice'' hown3
        clear hown3 hgrow3 HO3 hbl
        go_wp2
        go_roundg (gk - 1)
        case measure => omega
        case rel => exact ⟨k + 1, a2, c2, L ++ [-1], by omega, by omega, rfl, HT2, HO4, HW4⟩
      · obtain rfl : k = n := by omega
        have HR : Hid (ForePost w bal lim z (.returned (.slice a k c)) wr) := Lib.hid ⟨a, c, L, by rw [HN.out], by rw [HN.out]; exact HT.out, Lib.hid (by rw [HN.out]; exact owns_low HO.out (by rw [HQ.out]; omega)), by rw [HQ.out]; exact HW.out.1⟩
        clear hlt HT HO HW
        have hlt : ¬ k < k := by omega
        go_wp2
        go_ret
        exact HR.out
end
end Go.Proofs.Ytkeclanbebiogaa
