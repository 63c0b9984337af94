/- A law's own queue; queue; the chapter's example. -/
import Derived.Test.YtcjohlbglbcglaaStep
import Derived.Test.YtcjohlbglbcglaaWait
import Derived.Test.YtcjohlbglbcglaaPushInt
import Derived.Test.YtcjohlbglbcglaaStructs
namespace Go.Proofs.Ytcjohlbglbcglaa
open Go Go.RowKit
set_option linter.unusedVariables false
set_option linter.unusedSimpArgs false
set_option maxRecDepth 100000

theorem IntsAt.src {w : World} {S : Nat → Prop} {a : Option Addr} {L : List Int} (h : IntsAt w S a L) : Src w S a L.length 1 (L.map (Value.int .i64)) := by
  refine ⟨by simp, fun v hv => ?_, fun hl => ?_⟩
  · obtain ⟨x, _, rfl⟩ := List.mem_map.1 hv
    rfl
  · obtain ⟨b, off, e, hn, hb, hc⟩ := h hl
    refine ⟨_, e, hn, fun j v hv => ?_⟩
    rw [List.getElem?_map] at hv
    have hj : j < L.length := by
      rcases Nat.lt_or_ge j L.length with h1 | h1
      · exact h1
      · rw [List.getElem?_eq_none h1] at hv; cases hv
    rw [add_plain, hc j hj]
    rw [List.getElem?_eq_getElem hj] at hv
    rw [List.getD_eq_getElem?_getD, List.getElem?_eq_getElem hj]
    exact hv
/-- A queue that was made since the law began. -/
def QOwn (w0 w : World) (b sz : Nat) (go : Option Nat) (L : List Int) : Prop :=
  RingAt 51 3 1 w b go sz L.length (L.map (Value.int .i64)) ∧ (∀ i, Foot b go i → w0.heap.size ≤ i) ∧ Below w0.heap.size w0 w
section
variable {w0 w w' : World} {b sz : Nat} {go : Option Nat} {L Lw : List Int} {a : Option Addr} {cap : Nat} {lim x : Int} {S : Nat → Prop}
theorem QOwn.below (h : QOwn w0 w b sz go L) (hb : Below w.heap.size w w') : QOwn w0 w' b sz go L :=
  ⟨h.1.kept (S := fun _ => False) (Kept.of_below hb) (fun _ _ e => e), h.2.1, h.2.2.trans (hb.mono h.2.2.size)⟩
theorem QOwn.drewN (h : QOwn w0 w b sz go L) (n : Nat) : QOwn w0 (w.drewN n) b sz go L := h.below (below_drewN (Below.refl _ _) n)
theorem QOwn.alloc (h : QOwn w0 w b sz go L) (o : Obj) : QOwn w0 (w.alloc o) b sz go L := h.below ((Below.refl _ _).alloc (Nat.le_refl _) o)
theorem QOwn.top (h : QOwn w0 w b sz go L) : L.length ≤ sz ∧ 1 ≤ sz ∧ sz ≤ 1048576 := h.1.size_le
/-- What came in is apart from it. -/
theorem QOwn.uat (h : QOwn w0 w b sz go L) (hu : UAt w0 (fun i => w0.heap.size ≤ i) a Lw) : UAt w (Foot b go) a Lw := (hu.below h.2.2).other (fun i _ hi => h.2.1 i hi)
theorem QOwn.ints (h : QOwn w0 w b sz go L) {I : List Int} (hi : IntsAt w0 (fun i => w0.heap.size ≤ i) a I) : IntsAt w (Foot b go) a I := (hi.below h.2.2).other (fun i _ hi => h.2.1 i hi)
theorem QOwn.len (h : QOwn w0 w b sz go L) : Calls Try.prog 15 #[.pointer (some ⟨b, 0, none⟩)] w fun e w' => e = .returned (.int .i64 (L.length : Int)) ∧ w = w' := ri_len_any b _ w h.1.cells.2
theorem QOwn.all (h : QOwn w0 w b sz go L) : Calls Try.prog 14 #[.pointer (some ⟨b, 0, none⟩)] w fun e w' =>
    e = .returned (.slice (some ⟨w.heap.size, 0, none⟩) L.length L.length) ∧ IntsAt w' (fun _ => False) (some ⟨w.heap.size, 0, none⟩) L ∧ QOwn w0 w' b sz go L ∧ Below w.heap.size w w' :=
  (ri_all_any b sz L.length go _ w h.1).mono fun e w' ⟨he, h1, h2⟩ => ⟨he, IntsAt.of_blk h1 (fun e => e), h.below h2, h2⟩
theorem QOwn.step (h : QOwn w0 w b sz go L) (hu : UAt w (Foot b go) a Lw) (hL : Lw.length ≤ 9223372036854775807) (hA : Amts Lw) (hl : Amt lim) :
    Calls Try.prog 11 #[.pointer (some ⟨b, 0, none⟩), .int .u64 lim, .slice a Lw.length cap] w fun e w' => ∃ a' c', e = .returned (.slice a' (bat lim (L.map (wOf Lw))) c') ∧ bat lim (L.map (wOf Lw)) ≤ c' ∧ c' ≤ maxLen ∧
      IntsAt w' (Foot b go) a' (L.take (bat lim (L.map (wOf Lw)))) ∧ QOwn w0 w' b sz go (L.drop (bat lim (L.map (wOf Lw)))) ∧ Kept (Foot b go) w w' := by
  refine (step_any h.1 hu hL hA hl).mono ?_
  rintro e w' ⟨v, rfl, ho, hr, hk⟩
  obtain ⟨a', c', rfl, h1, h2, h3, h4⟩ := ints_of_owns (S := Foot b go) ho (fun i e hf => by have := (ho.lt i e).1; have := h.1.lt i hf; omega)
  refine ⟨a', c', rfl, h2, h3, h4, ⟨?_, h.2.1, Kept.below h.2.2 hk h.2.1 h.2.2.size⟩, hk⟩
  rw [List.length_drop]
  exact hr
theorem QOwn.wait (h : QOwn w0 w b sz go L) (hu : UAt w S a Lw) (hL : Lw.length ≤ 9223372036854775807) (hA : Amts Lw) (hl : Amt lim) (hx : Amt x) :
    Calls Try.prog 17 #[.pointer (some ⟨b, 0, none⟩), .int .u64 lim, .slice a Lw.length cap, .int .u64 x] w fun e w' => e = .returned (.int .i64 (bnd lim (L.map (wOf Lw) ++ [x]) : Int)) ∧ QOwn w0 w' b sz go L ∧ Below w.heap.size w w' :=
  (wait_any h.1 (hu.other (fun _ _ e => e.elim)) hL hA hl hx).mono fun e w' ⟨he, hb⟩ => ⟨he, h.below hb, hb⟩
/-- A new queue. -/
theorem qown_new (hB : Below w0.heap.size w0 w) {s : Nat} (h1 : 1 ≤ s) (h2 : s ≤ 1048576) : QOwn w0 (w.alloc (.cells #[.int .i64 s, .slice none 0 0, .int .i64 0, .int .i64 0] 51)) w.heap.size s none [] :=
  ⟨ringAt_new w _ _ 1 s h1 h2, (fun i hi => by
    rcases hi with rfl | hi
    · exact hB.size
    · cases hi), hB.alloc hB.size _⟩
/-- Push, where there is room for all. -/
theorem QOwn.push {I : List Int} {c : Nat} (h : QOwn w0 w b sz go L) (hi : IntsAt w (Foot b go) a I) (hc : I.length ≤ c) (hcc : c ≤ 9223372036854775807) (hroom : L.length + I.length ≤ sz) :
    Calls Try.prog 20 #[.pointer (some ⟨b, 0, none⟩), .slice a I.length c] w fun e w' => e = .returned (.int .i64 (I.length : Int)) ∧ ∃ go', QOwn w0 w' b sz go' (L ++ I) ∧ Kept (Foot b go) w w' := by
  refine (ri_push_any b sz L.length I.length c go a _ _ w h.1 hi.src hc hcc).mono ?_
  rintro e w' ⟨he, go', hr, hm, hk⟩
  have hmin : min I.length (sz - L.length) = I.length := by omega
  rw [hmin] at he hr
  rw [List.take_of_length_le (by simp), ← List.map_append, ← List.length_append] at hr
  refine ⟨he, go', ⟨hr, fun i hi => ?_, Kept.below h.2.2 hk h.2.1 h.2.2.size⟩, hk⟩
  rcases hi with hi | hi
  · exact h.2.1 i (.inl hi)
  · rcases hm i hi.symm with h3 | h3
    · exact h.2.1 i (.inr h3.symm)
    · have := h.2.2.size
      omega
set_option maxHeartbeats 800000 in
/-- queue. -/
theorem queue_any {I : List Int} {c : Nat} (hi : IntsAt w (fun i => w.heap.size ≤ i) a I) (hn : I.length ≤ 1000) (hc : I.length ≤ c) (hcc : c ≤ 9223372036854775807) :
    Calls Try.prog 10 #[.slice a I.length c] w fun e w' => ∃ b sz go, e = .returned (.pointer (some ⟨b, 0, none⟩)) ∧ QOwn w w' b sz go I := by
  obtain ⟨s, hs, hs1, hs2⟩ : ∃ s : Nat, s = max I.length 1 ∧ 1 ≤ s ∧ s ≤ 1000 := ⟨_, rfl, by omega, by omega⟩
  have hI := hi.below ((Below.refl w.heap.size w).alloc (Nat.le_refl _) (.cells #[.int .i64 s, .slice none 0 0, .int .i64 0, .int .i64 0] 51))
  have hQ := qown_new (w0 := w) (w := w) (Below.refl _ _) hs1 (by omega)
  have HP := Lib.hid (hQ.push (hI.other (fun i _ hi => hQ.2.1 i hi)) hc hcc (by simp; omega))
  have HN := Lib.hid (ri_new_some s w hs1 (by omega))
  obtain ⟨n, hnn⟩ : ∃ n, I.length = n := ⟨_, rfl⟩
  rw [hnn] at HP hs hc ⊢
  have hmax : (if (n : Int) < 1 then (1 : Int) else (n : Int)) = (s : Int) := by split <;> omega
  have hmax2 : max (n : Int) 1 = (s : Int) := by omega
  clear hi hI hQ hn hnn hs
  go_enter Try.func10, Try.ntmps10
  go_wp2_with fail
  refine HN.out.mono ?_
  rintro e w1 ⟨rfl, rfl⟩
  clear HN
  go_wp2_with fail
  refine HP.out.mono ?_
  rintro e w2 ⟨rfl, go', hq, -⟩
  have HQ := Lib.hid hq
  clear hq HP
  go_wp2
  go_ret
  exact ⟨_, _, _, rfl, HQ.out⟩
theorem bat_eg : bat 10 [25, 4, 5] = 1 ∧ bat 10 [4, 5] = 2 ∧ bnd 10 [25, 4, 5, 2] = 3 := by decide
end
end Go.Proofs.Ytcjohlbglbcglaa
