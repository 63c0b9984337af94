/- The lanes, the meter, the weights and the configuration of DeadlineAssigns in memory. -/
import Derived.Test.YtjleklhajmhekaaAsn
import Derived.Test.YtjleklhajmhekaaArg3
import Derived.Test.YtjleklhajmhekaaLaw
namespace Go.Proofs.Ytjleklhajmhekaa
open Go Go.RowKit
set_option linter.unusedVariables false
set_option linter.unusedSimpArgs false
set_option maxRecDepth 100000

/-- Lanes in block d, a meter in block d + 1, weights of one's own behind them, the configuration in the box behind w0's first one. -/
structure As (w0 w : World) (c : Nat → Int) (d : Nat) (wv : Value) (L F V : List Int) (B : Int) : Prop where
  la : RefAt w (fun i => i = d + 1 ∨ some i = wv.ownBlock) d 100 F V
  me : ∃ Sp T D, MRefAt w (d + 1) B Sp T D ∧ FitsM B Sp T D
  ws : w.ownsRow (d + 2) 22 1 wv L.length (L.map (Value.int .u64))
  cb : Blk w (w0.heap.size + 1) 26 (cellsOf c)
  be : Below w0.heap.size w0 w
  d2 : w0.heap.size + 2 ≤ d
section
variable {w0 w w' : World} {c : Nat → Int} {d : Nat} {wv : Value} {L F V : List Int} {B : Int}
theorem As.below (h : As w0 w c d wv L F V B) (b : Below w.heap.size w w') : As w0 w' c d wv L F V B := by
  obtain ⟨Sp, T, D, h1, h2⟩ := h.me
  exact ⟨h.la.below b, ⟨Sp, T, D, Blk.below h1 b (Blk.lt h1), h2⟩, owns_below h.ws b, h.cb.below b h.cb.lt, h.be.trans (b.mono (by have := h.cb.lt; omega)), h.d2⟩
theorem As.size (h : As w0 w c d wv L F V B) : d + 2 ≤ w.heap.size := by
  obtain ⟨Sp, T, D, h1, _⟩ := h.me
  have := Blk.lt h1
  omega
theorem As.own (h : As w0 w c d wv L F V B) : ∀ i, some i = wv.ownBlock → d + 2 ≤ i ∧ i < w.heap.size := fun i hi => h.ws.lt i hi.symm
/-- New lanes, a new meter. -/
theorem As.new {W : World} (hc : Blk W (w0.heap.size + 1) 26 (cellsOf c)) (hb : Below w0.heap.size w0 W) (hz : w0.heap.size + 2 ≤ W.heap.size) :
    As w0 ((W.alloc (.cells #[.slice none 0 0, .slice none 0 0, .int .i64 100] 43)).alloc (.cells #[.int .u64 0, .int .u64 0, .int .u64 0, .int .u64 0, .int .u64 0] 46)) c W.heap.size (.slice none 0 0) [] [] [] 0 := by
  have h1 := refAt_new W (fun i => i = W.heap.size + 1 ∨ some i = (Value.slice none 0 0).ownBlock) 100 (by omega)
  have h2 := Blk.new (W.alloc (.cells #[.slice none 0 0, .slice none 0 0, .int .i64 100] 43)) 46 #[.int .u64 0, .int .u64 0, .int .u64 0, .int .u64 0, .int .u64 0]
  rw [show (W.alloc (.cells #[.slice none 0 0, .slice none 0 0, .int .i64 100] 43)).heap.size = W.heap.size + 1 by simp] at h2
  exact ⟨h1.below ((Below.refl _ _).alloc (Nat.le_refl _) _), ⟨0, 0, 0, h2, by unfold FitsM; omega⟩, World.ownsRow_nil _ _ _ _, (hc.alloc _).alloc _, (hb.alloc (by omega) _).alloc (by simp; omega) _, hz⟩
theorem As.push (h : As w0 w c d wv L F V B) (cl x : Int) : Calls Try.prog 20 #[.pointer (some ⟨d, 0, none⟩), .int .i64 cl, .int .i64 x] w fun e w' => e = .returned (.int .i64 (errP 100 F V cl)) ∧ As w0 w' c d wv L (pushF 100 F cl x) (pushV 100 V cl x) B := by
  refine (rpush_any cl x h.la (fun i hi => hi.elim (fun e => by have := h.size; omega) (fun e => (h.own i e).2))).mono ?_
  rintro e w' ⟨he, hr, k⟩
  obtain ⟨Sp, T, D, h1, h2⟩ := h.me
  have hd2 := h.d2
  exact ⟨he, hr, ⟨Sp, T, D, Blk.kept (w := w) h1 k (fun e => by have : d + 1 = d := e; omega), h2⟩, owns_kept h.ws k (fun g hg e => by have := (h.own g hg.symm).1; have : g = d := e; omega),
    h.cb.kept k (fun e => by have : w0.heap.size + 1 = d := e; omega), Kept.below h.be k (fun i hi => by have : i = d := hi; omega) (by have := h.cb.lt; omega), h.d2⟩
/-- A weight more. -/
theorem As.app {v' : Value} {x : Int} (h : As w0 w c d wv L F V B) (ho : w'.ownsRow (d + 2) 22 1 v' (L.length + 1) (L.map (Value.int .u64) ++ [.int .u64 x])) (hg : w.grownBy w' wv.ownBlock) (ha : v'.ownBlock = wv.ownBlock ∨ v'.ownBlock = some w.heap.size) :
    As w0 w' c d v' (L ++ [x]) F V B := by
  obtain ⟨Sp, T, D, h1, h2⟩ := h.me
  have kk : Kept (fun i => some i = wv.ownBlock) w w' := Kept.of_grown hg (fun i e => e)
  have hsz := h.size
  have hd2 := h.d2
  have hm1 : ¬ (some (d + 1) = wv.ownBlock) := fun e => by have := (h.own _ e).1; omega
  refine ⟨?_, ⟨Sp, T, D, Blk.kept (w := w) h1 kk hm1, h2⟩, by simpa using ho, h.cb.kept kk (fun e => by have := (h.own _ e).1; omega), Kept.below h.be kk (fun i hi => by have := (h.own i hi).1; omega) (by have := h.cb.lt; omega), h.d2⟩
  rcases ha with ha | ha
  · rw [ha]
    exact h.la.kept kk (fun e => by have := (h.own _ e).1; omega) (fun i _ e => .inr e)
  · have := (h.la.kept kk (fun e => by have := (h.own _ e).1; omega) (fun i _ e => .inr e))
    obtain ⟨a, ca, v, cv, q1, q2, q3, q4⟩ := h.la
    refine ⟨a, ca, v, cv, Blk.kept (w := w) q1 kk (fun e => by have := (h.own _ e).1; omega), ?_, ?_, q4⟩
    · intro h0
      obtain ⟨b, off, e, hn, hb, hcl⟩ := q2 h0
      exact ⟨b, off, e, fun hx => hx.elim (fun e => hn (.inl e)) (fun e => e.elim (fun e => hn (.inr (.inl e))) (fun e => by rw [ha] at e; injection e with e; omega)), Nat.lt_of_lt_of_le hb kk.size, fun j hj => kk.cell (p := ⟨b, off + j, none⟩) (fun ht => hn (.inr (.inr ht))) (hcl j hj)⟩
    · intro h0
      obtain ⟨b, off, e, hn, hb, hcl⟩ := q3 h0
      exact ⟨b, off, e, fun hx => hx.elim (fun e => hn (.inl e)) (fun e => e.elim (fun e => hn (.inr (.inl e))) (fun e => by rw [ha] at e; injection e with e; omega)), Nat.lt_of_lt_of_le hb kk.size, fun j hj => kk.cell (p := ⟨b, off + j, none⟩) (fun ht => hn (.inr (.inr ht))) (hcl j hj)⟩
/-- What a boundary hands back and leaves. -/
def AsStep (w0 : World) (c : Nat → Int) (d : Nat) (wv : Value) (L : List Int) (r : List (Int × Int) × List Int × List Int × Int) (ep : Int) (e : Ending) (w' : World) : Prop :=
  ∃ a cp, e = .returned (.slice a r.1.length cp) ∧ As w0 w' c d wv L r.2.1 r.2.2.1 (balOf r) ∧ AAt w' (fun _ => False) a ep r.1
theorem As.step {n cap : Nat} {a : Option Addr} {ep m : Int} (h : As w0 w c d (.slice a n cap) L F V B) (hn : L.length = n) (hl : n ≤ 9223372036854775807) (hA : Amts L) (hm : 0 ≤ m) (he0 : 0 ≤ ep) (he1 : ep ≤ 1099511627776) :
    Calls Try.prog 21 #[.int .i64 ep, .pointer (some ⟨d, 0, none⟩), .pointer (some ⟨d + 1, 0, none⟩), .int .u64 m, .slice a n cap] w (AsStep w0 c d (.slice a n cap) L (stp (wOf L) F V B m) (ep + 1)) := by
  obtain ⟨Sp, T, D, h1, h2⟩ := h.me
  have hd2 := h.d2
  have hws := h.ws
  rw [hn] at hws
  obtain ⟨a', cp', e1, e2, e3, hu⟩ := amts_of_owns (S := fun i => i = d ∨ i = d + 1) hws (fun i hi e => by have := (h.own i hi.symm).1; omega)
  injection e1 with e1 _ e4
  subst e1 e4
  have H := rstep_any (x := m) (ep := ep) (cap := cap) h.la h1 h2 (.inl rfl) (by omega) hu (by omega) hA hm he0 he1
  rw [hn] at H
  refine H.mono ?_
  rintro e w' ⟨a5, c5, he, hr⟩
  obtain ⟨T1, D1, r1, r2, r3, r4, r5, r6, r7, r8, r9⟩ := hr.out
  refine ⟨a5, c5, he, ⟨r1.other (fun i _ hi => .inl hi), ⟨_, T1, D1, r2, r3⟩, ?_, h.cb.kept r5 (fun e => by omega), Kept.below h.be r5 (fun i hi => by omega) (by have := h.cb.lt; omega), h.d2⟩, asg_of_owns r4 rfl (fun i _ h => h)⟩
  exact owns_kept h.ws r5 (fun g hg e => by have := (h.own g hg.symm).1; omega)
end
end Go.Proofs.Ytjleklhajmhekaa
