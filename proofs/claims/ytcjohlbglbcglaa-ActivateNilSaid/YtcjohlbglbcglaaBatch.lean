/- Step's state while its batch is taken; the iterator. -/
import Derived.Test.YtcjohlbglbcglaaNow
import Derived.Test.YtcjohlbglbcglaaOneInt
import Derived.Test.YtcjohlbglbcglaaJoint
import Derived.RangeFuncBox
import Derived.RangeFuncLeaves
import Derived.Shelf.Abstract
import Derived.OwnWalkIn
import Derived.TacticsInMore
import Derived.LoopNIn
import Derived.LoopIn
namespace Go.Proofs.Ytcjohlbglbcglaa
open Go Go.RowKit Go.Shelf
set_option linter.unusedVariables false
set_option linter.unusedSimpArgs false
set_option maxRecDepth 100000

attribute [local go_sem] Oper.semAt_some

/-- What has been counted when k have come, all at the first boundary. -/
def stN (X : List Int) (k : Nat) : Nat × Int := (if k = 0 then 0 else 1, sumTo X k)
section
variable {X : List Int} {lim : Int} {k : Nat}
theorem stN_le (X : List Int) (k : Nat) : (stN X k).1 ≤ 1000000000 := by unfold stN; split <;> simp
theorem stN_yes (h : k < bat lim X) : bstep lim (stN X k) (X.getD k 0) = stN X (k + 1) := by
  cases k with
  | zero =>
    show bstep lim (0, 0) (X.getD 0 0) = (1, sumTo X 0 + X.getD 0 0)
    rw [bstep_zero]
    simp [sumTo]
  | succ j =>
    have := (bat_stop lim X).2.1 (j + 1) (by omega) h
    show bstep lim (0 + 1, sumTo X (j + 1)) (X.getD (j + 1) 0) = (0 + 1, sumTo X (j + 1) + X.getD (j + 1) 0)
    rw [sumTo] at this
    exact bstep_yes (by omega)
theorem stN_no (h : k = bat lim X) (hk : k < X.length) : ((bstep lim (stN X k) (X.getD k 0)).1 : Int) = 2 := by
  obtain ⟨h1, h2⟩ := (bat_stop lim X).2.2 (by omega)
  rw [← h] at h1 h2
  obtain ⟨j, rfl⟩ : ∃ j, k = j + 1 := ⟨k - 1, by omega⟩
  rw [sumTo] at h2
  show ((bstep lim (0 + 1, sumTo X (j + 1)) (X.getD (j + 1) 0)).1 : Int) = 2
  rw [bstep_no h2]
  rfl
theorem stN_amt (hX : ∀ i, Amt (X.getD i 0)) (hl : Amt lim) (h : k ≤ bat lim X) : Amt (stN X k).2 := by
  refine ⟨sumTo_nonneg (fun i => (hX i).1) k, ?_⟩
  show sumTo X k ≤ _
  rcases k with _ | _ | k
  · show (0 : Int) ≤ _
    decide
  · have := (hX 0).2
    simp only [sumTo]
    omega
  · have := (bat_stop lim X).2.1 (k + 1) (by omega) (by omega)
    have := hl.2
    omega
end

def nowF (z : Nat) : Value := .func (.func 23) #[] #[.pointer (some ⟨z + 4, 0, none⟩), .pointer (some ⟨z, 0, none⟩)]
/-- k are out of the queue, j are in the list; the closure stands at p. -/
structure Sq (w0 : World) (b : Nat) (go : Option Nat) (sz : Nat) (L : List Int) (wv : Value) (lim : Int) (p : Nat × Int) (k j : Nat) (W : World) : Prop where
  ring : RingAt 51 3 1 W b go sz (L.length - k) ((L.drop k).map (Value.int .i64))
  bnd : Bnd W (w0.heap.size + 1) lim p
  fw : Blk W w0.heap.size 24 #[wv]
  fb : Blk W (w0.heap.size + 4) 43 #[bndF (w0.heap.size + 1)]
  fq : Blk W (w0.heap.size + 6) 26 #[.pointer (some ⟨b, 0, none⟩)]
  fn : Blk W (w0.heap.size + 7) 46 #[nowF w0.heap.size]
  out : ∃ v, Boxed W (w0.heap.size + 5) 22 v ∧ W.ownsRow (w0.heap.size + 8) 3 1 v j ((L.take j).map (Value.int .i64)) ∧ True
  kept : Kept (Foot b go) w0 W
section
variable {w0 W W' : World} {b : Nat} {go : Option Nat} {sz : Nat} {L : List Int} {wv : Value} {lim : Int} {p q : Nat × Int} {k j : Nat} {S : Nat → Prop}
theorem RingAt.isCells {R E kk : Nat} {c : Nat} {Fs : List Value} (h : RingAt R E kk W b go sz c Fs) {i : Nat} (hi : Foot b go i) : ∃ cs t, Blk W i t cs := by
  obtain ⟨_, _, ⟨rfl, _, h1, _⟩ | ⟨g', n, f, C, rfl, ⟨h1, h2, _⟩, _⟩⟩ := h
  · rcases hi with rfl | h
    · exact ⟨_, _, h1⟩
    · cases h
  · rcases hi with rfl | h
    · exact ⟨_, _, h1⟩
    · injection h with h
      subst h
      exact ⟨_, _, h2⟩
theorem owns_same {base e size n : Nat} {v : Value} {xs : List Value} (h : W.ownsRow base e size v n xs) (hs : ∀ i, v.ownBlock = some i → W'.heap[i]? = W.heap[i]?) : W'.ownsRow base e size v n xs := by
  refine ⟨h.1, ?_⟩
  rcases h.2 with ⟨h1, h2⟩ | ⟨g, cp, cur, rfl, r⟩
  · exact .inl ⟨h1, h2⟩
  · refine .inr ⟨g, cp, cur, rfl, r.1, ?_, r.2.2⟩
    rw [hs g rfl]
    exact r.2.1
theorem blk_turn {row : Option Nat} {g t : Nat} {cs : Array Value} (h : Blk W g t cs) (hg : W.grownBy W' row) (hr : ∀ r, row = some r → ∃ o : Obj, W.heap[r]? = some o ∧ o.isCells = false) : Blk W' g t cs :=
  h.grown hg (fun e => by obtain ⟨o, ho, hc⟩ := hr g e.symm; rw [show W.heap[g]? = _ from h] at ho; cases ho; cases hc)
/-- Whatever turns that is no cells. -/
theorem Sq.turn {row : Option Nat} (h : Sq w0 b go sz L wv lim p k j W) (hg : W.grownBy W' row) (hr : ∀ r, row = some r → w0.heap.size ≤ r ∧ ∃ o : Obj, W.heap[r]? = some o ∧ o.isCells = false) : Sq w0 b go sz L wv lim p k j W' := by
  have hr2 : ∀ r, row = some r → ∃ o : Obj, W.heap[r]? = some o ∧ o.isCells = false := fun r e => (hr r e).2
  have K : Kept (fun i => row = some i) W W' := Kept.of_grown hg (fun i e => e.symm)
  refine ⟨h.ring.kept K (fun i hi e => ?_), ⟨blk_turn h.bnd.1 hg hr2, blk_turn h.bnd.2.1 hg hr2, blk_turn h.bnd.2.2 hg hr2⟩, blk_turn h.fw hg hr2, blk_turn h.fb hg hr2, blk_turn h.fq hg hr2, blk_turn h.fn hg hr2, ?_, h.kept.trans K (fun i hi e => by have := (hr i e).1; omega)⟩
  · obtain ⟨cs, t, hb⟩ := h.ring.isCells hi
    obtain ⟨o, ho, hc⟩ := hr2 i e
    rw [show W.heap[i]? = _ from hb] at ho; cases ho; cases hc
  · exact holdsRow_own (β := Unit) _ _ _ _ _ (fun _ => j) (fun _ => (L.take j).map (Value.int .i64)) (fun _ _ => True) () W W' row h.out hg hr2
theorem Sq.own {B : Nat} (hB : w0.heap.size ≤ B) (f : Nat → Nat × Int) (kk jj : Nat → Nat) : OwnFrom B (fun s W => Sq w0 b go sz L wv lim (f s) (kk s) (jj s) W) := fun s A B' row h hg hr => h.turn hg (fun r e => ⟨by have := (hr r e).1; omega, (hr r e).2⟩)
theorem Sq.drewN (h : Sq w0 b go sz L wv lim p k j W) (m : Nat) : Sq w0 b go sz L wv lim p k j (W.drewN m) := h.turn (only_drewN (only_refl W none) m) (fun r e => by cases e)
theorem Sq.foot (h : Sq w0 b go sz L wv lim p k j W) (hlt : ∀ i, Foot b go i → i < w0.heap.size) {i : Nat} (hi : w0.heap.size ≤ i) : ¬ Foot b go i := fun e => by have := hlt i e; omega
/-- The closure has turned. -/
theorem Sq.count (h : Sq w0 b go sz L wv lim p k j W) (hlt : ∀ i, Foot b go i → i < w0.heap.size) (hb : Bnd W' (w0.heap.size + 1) lim q) (K : Kept (fun i => i = w0.heap.size + 1 + 1 ∨ i = w0.heap.size + 1 + 2) W W') : Sq w0 b go sz L wv lim q k j W' := by
  refine ⟨h.ring.kept K (fun i hi e => by have := hlt i hi; omega), hb, h.fw.kept K (by omega), h.fb.kept K (by omega), h.fq.kept K (by omega), h.fn.kept K (by omega), ?_, h.kept.trans K (fun i hi e => by omega)⟩
  obtain ⟨v, h1, h2, -⟩ := h.out
  exact ⟨v, (K.block _ (Boxed.lt h1) (by omega)).trans h1, owns_same h2 (fun i hi => K.block i (h2.lt i hi).2 (by have := (h2.lt i hi).1; omega)), trivial⟩
/-- One more is out of the queue. -/
theorem Sq.pop (h : Sq w0 b go sz L wv lim p k j W) (hlt : ∀ i, Foot b go i → i < w0.heap.size) (hr : RingAt 51 3 1 W' b go sz (L.length - (k + 1)) ((L.drop (k + 1)).map (Value.int .i64))) (K : Kept (Foot b go) W W') : Sq w0 b go sz L wv lim p (k + 1) j W' := by
  have nf : ∀ d, ¬ Foot b go (w0.heap.size + d) := fun d => h.foot hlt (by omega)
  refine ⟨hr, h.bnd.kept K (fun i h1 h2 => h.foot hlt (by omega)), h.fw.kept K (nf 0), h.fb.kept K (nf 4), h.fq.kept K (nf 6), h.fn.kept K (nf 7), ?_, h.kept.trans K (fun i hi e => e)⟩
  obtain ⟨v, h1, h2, -⟩ := h.out
  exact ⟨v, (K.block _ (Boxed.lt h1) (nf 5)).trans h1, owns_same h2 (fun i hi => K.block i (h2.lt i hi).2 (h.foot hlt (by have := (h2.lt i hi).1; omega))), trivial⟩
theorem hu_of {a : Option Addr} {Lw : List Int} (h : Sq w0 b go sz L wv lim p k j W) (hu : UAt w0 (Foot b go) a Lw) : UAt W (Foot b go) a Lw := hu.kept h.kept (fun _ _ e => e)
theorem drop_cons {L : List Int} {k : Nat} (hk : k < L.length) : (L.drop k).map (Value.int .i64) = .int .i64 (L.getD k 0) :: (L.drop (k + 1)).map (Value.int .i64) := by
  rw [List.drop_eq_getElem_cons hk, List.map_cons, List.getD_eq_getElem?_getD, List.getElem?_eq_getElem hk]
  rfl
end
section
variable {w0 : World} {b : Nat} {go : Option Nat} {sz : Nat} {L Lw : List Int} {a : Option Addr} {cap : Nat} {lim : Int}
set_option maxHeartbeats 2000000 in
/-- **The iterator**: it takes out just a batch. -/
theorem batch1_in (F : Fence) (n : Nat) (hFw : F = Fence.wide) (hn : 3 ≤ n) (l : Nat) (Bk : World → Prop) (B0 : Nat) (hB0 : w0.heap.size + 8 ≤ B0) (hBk : ∀ A B, KeepsFrom B0 A B → Bk A → Bk B) (hlt : ∀ i, Foot b go i → i < w0.heap.size)
    (hu : UAt w0 (Foot b go) a Lw) (hL : Lw.length ≤ 9223372036854775807) (hA : Amts Lw) (hl : Amt lim) (hLL : L.length ≤ 1048576)
    (hY : ∀ (x : Nat) W, Bk W → x < bat lim (L.map (wOf Lw)) ∧ Sq w0 b go sz L (.slice a Lw.length cap) lim (stN (L.map (wOf Lw)) (x + 1)) (x + 1) x W → YieldAt F (n - 1) Try.prog l #[.int .i64 (L.getD x 0)] W fun e W' => e = .returned (.bool true) ∧ Bk W' ∧ x < bat lim (L.map (wOf Lw)) ∧ Sq w0 b go sz L (.slice a Lw.length cap) lim (stN (L.map (wOf Lw)) (x + 1)) (x + 1) (x + 1) W')
    (W : World) (h0 : Bk W) (hS : Sq w0 b go sz L (.slice a Lw.length cap) lim (stN (L.map (wOf Lw)) 0) 0 0 W) :
    CallsIn F n Try.prog 36 #[.func (.yield l) #[] #[], .pointer (some ⟨w0.heap.size + 6, 0, none⟩), .pointer (some ⟨w0.heap.size + 7, 0, none⟩)] W fun e W' => (∃ v, e = .returned v) ∧ Bk W' ∧
      ∃ q, Sq w0 b go sz L (.slice a Lw.length cap) lim q (bat lim (L.map (wOf Lw))) (bat lim (L.map (wOf Lw))) W' := by
  have h1 : 1 ≤ n := by omega
  have hro : F.round = none := by rw [hFw]; rfl
  have hf : ∀ k, F.fn k := fun k => by rw [hFw]; trivial
  have HC : Hid (∀ (f n : Nat) (args : Array Value) (w : World) (R : Ending → World → Prop), Calls Try.prog f args w R → CallsIn F n Try.prog f args w R) := Lib.hid (fun f n args w R h => by rw [hFw]; exact callsIn_wide.2 h)
  have hXl : (L.map (wOf Lw)).length = L.length := List.length_map ..
  have hXg : ∀ k, k < L.length → (L.map (wOf Lw)).getD k 0 = wOf Lw (L.getD k 0) := fun k hk => by
    rw [List.getD_eq_getElem?_getD, List.getElem?_map, List.getD_eq_getElem?_getD, List.getElem?_eq_getElem hk]; rfl
  have hXa : ∀ i, Amt ((L.map (wOf Lw)).getD i 0) := fun i => amts_map (fun i => wOf_amt hA i) i
  obtain ⟨X, hX⟩ : ∃ X, L.map (wOf Lw) = X := ⟨_, rfl⟩
  rw [hX] at hY hS hXl hXg hXa ⊢
  have hbl : bat lim X ≤ L.length := by rw [← hXl]; exact bat_le X
  have HY := Lib.hid hY
  have HBK := Lib.hid hBk
  have HU := Lib.hid hu
  have HSS := Lib.hid hS
  have HXg := Lib.hid hXg
  have HLT := Lib.hid hlt
  have HX := Lib.hid (And.intro hXl (And.intro hXa (And.intro hA hl)))
  clear hFw hY hBk hu hS hXl hXg hXa hX hlt hA hl
  refine callsIn_of_wp Try.func36 rfl (hf _) ?_ hro
  simp only [Try.ntmps36, List.size_toArray, List.length_cons, List.length_nil, Nat.reduceAdd, Nat.reduceSub, Array.replicate_succ, Array.replicate_zero, List.push_toArray, List.append_toArray, List.nil_append, List.cons_append]
  gi_wp2
  gi_loopw [4] (fun s4 wr => ∃ k : Nat, k ≤ bat lim X ∧ Bk wr ∧ Hid (Sq w0 b go sz L (.slice a Lw.length cap) lim (stN X k) k k wr)) (fun _ wr => match wr.cell? ⟨b, 3, none⟩ with | some v => (intOf v).toNat | none => 0)
  case atStart => exact ⟨0, Nat.zero_le _, h0, HSS⟩
  case round =>
    obtain ⟨k, hk, hbk, HSK⟩ := hrel
    have hs := HSK.out
    have x1 := hs.fq.cell 0
    have x2 : wr.cell? ⟨w0.heap.size + 7, 0, none⟩ = some (.func (.func 23) #[] #[.pointer (some ⟨w0.heap.size + 4, 0, none⟩), .pointer (some ⟨w0.heap.size, 0, none⟩)]) := hs.fn.cell 0
    have x3 := hs.ring.cells.2
    by_cases hlt : k < L.length
    · have HPK := Lib.hid (ri_peek_at b sz (L.length - k) 0 go _ (.int .i64 (L.getD k 0)) wr hs.ring (by rw [drop_cons hlt]; rfl))
      have HNW := Lib.hid (fun m => now_any (cap := cap) (w0.heap.size + 4) w0.heap.size (L.getD k 0) (wr.drewN m) hs.fb hs.fw (UAt.drewN (hu_of hs HU.out) m) hL HX.out.2.2.1 hs.bnd (stN_amt HX.out.2.1 HX.out.2.2.2 hk) HX.out.2.2.2 (stN_le X k))
      rw [← HXg.out k hlt] at HNW
      have HKL := Lib.hid hlt
      by_cases hb : k = bat lim X
      · have hno : (((bstep lim (stN X k) (X.getD k 0)).1 : Int) == 1) = false := by rw [stN_no hb (by rw [HX.out.1]; exact hlt)]; rfl
        rw [hno] at HNW
        generalize bstep lim (stN X k) (X.getD k 0) = q at HNW
        obtain ⟨y, hy⟩ : ∃ y, L.getD k 0 = y := ⟨_, rfl⟩
        rw [hy] at HNW HPK
        clear hno hs x3 hlt hy HY HXg
        gi_wp2_with (first | (gi_at_call 37; refine (HC.out _ _ _ _ _ HPK.out).mono ?_; rintro e w1 ⟨rfl, m1, rfl⟩) | (gi_at_call 23; refine (HC.out _ _ _ _ _ (HNW.out m1)).mono ?_; rintro e w2 ⟨rfl, hb2, hk2⟩))
        refine bodyPost_ret (results_none rfl _ _ _) rfl ?_
        have hk3 : Kept (fun i => i = w0.heap.size + 1 + 1 ∨ i = w0.heap.size + 1 + 2) wr w2 := ((Kept.refl _ wr).drewN m1).trans hk2 (fun _ _ e => e)
        exact ⟨⟨_, rfl⟩, HBK.out _ _ (keepsFrom_kept hk3 (fun i hi => by omega)) hbk, q, hb ▸ HSK.out.count HLT.out hb2 hk3⟩
      · have hkl : k < bat lim X := by omega
        rw [stN_yes hkl] at HNW
        have hno : (((stN X (k + 1)).1 : Int) == 1) = true := rfl
        rw [hno] at HNW
        obtain ⟨c, hc⟩ : ∃ c, L.length - (k + 1) = c := ⟨_, rfl⟩
        have hc1 : L.length - k = c + 1 := by omega
        have HPP := Lib.hid (fun (w3 : World) (h3 : RingAt 51 3 1 w3 b go sz (L.length - k) ((L.drop k).map (Value.int .i64))) => ri_pop_at b sz c go ((L.drop (k + 1)).map (Value.int .i64)) (.int .i64 (L.getD k 0)) w3 (by rw [hc1, drop_cons hlt] at h3; exact h3))
        have HC1 := Lib.hid hc
        have HYK := Lib.hid (HY.out k)
        have HKB := Lib.hid hkl
        obtain ⟨y, hy⟩ : ∃ y, L.getD k 0 = y := ⟨_, rfl⟩
        rw [hy] at HNW HPK HPP HYK
        have hkw : ∀ (w3 : World), Kept (fun i => i = w0.heap.size + 1 + 1 ∨ i = w0.heap.size + 1 + 2) wr w3 → w3.cell? ⟨w0.heap.size + 6, 0, none⟩ = some (.pointer (some ⟨b, 0, none⟩)) := fun w3 h3 => h3.cell (p := ⟨w0.heap.size + 6, 0, none⟩) (by simp) x1
        have HKW := Lib.hid hkw
        clear hno hs x3 hlt hy HY HXg hc hc1 hb hkl hkw
        gi_wp2_with (first | (gi_at_call 37; refine (HC.out _ _ _ _ _ HPK.out).mono ?_; rintro e w1 ⟨rfl, m1, rfl⟩) | (gi_at_call 23; refine (HC.out _ _ _ _ _ (HNW.out m1)).mono ?_; rintro e w2 ⟨rfl, hb2, hk2⟩; have hk3 : Kept (fun i => i = w0.heap.size + 1 + 1 ∨ i = w0.heap.size + 1 + 2) wr w2 := ((Kept.refl _ wr).drewN m1).trans hk2 (fun _ _ e => e); have hs2 := Lib.hid (HSK.out.count HLT.out hb2 hk3); have x4 := HKW.out w2 hk3) | (gi_at_call 38; refine (HC.out _ _ _ _ _ (HPP.out w2 hs2.out.ring)).mono ?_; rintro e w4 ⟨rfl, hr4, hk4⟩; obtain ⟨fn, tmps, assign, body, hy, hR⟩ := HYK.out w4 (HBK.out _ _ (keepsFrom_kept hk4 (fun i hi e => by have := HLT.out i e; omega)) (HBK.out _ _ (keepsFrom_kept hk3 (fun i hi => by omega)) hbk)) ⟨HKB.out, hs2.out.pop HLT.out (by rw [HC1.out]; exact hr4) hk4⟩))
        refine hR.mono ?_
        rintro e w5 ⟨rfl, hb5, -, hs5⟩
        gi_wp2
        go_roundw
        case rel => exact ⟨k + 1, by have := HKB.out; omega, hb5, Lib.hid hs5⟩
        case measure =>
          rw [hs5.ring.cells.2, HSK.out.ring.cells.2]
          have := HKL.out
          simp [intOf]
          omega
    · obtain rfl : k = bat lim X := by omega
      have hz : L.length - bat lim X = 0 := by omega
      rw [hz] at x3
      have HPK := Lib.hid (ri_peek_out b 0 0 wr x3 (by omega))
      clear hs x3 hz hlt
      gi_wp2_with (gi_at_call 37; refine (HC.out _ _ _ _ _ HPK.out).mono ?_; rintro e w1 ⟨rfl, rfl⟩)
      refine bodyPost_ret (results_none rfl _ _ _) rfl ?_
      exact ⟨⟨_, rfl⟩, hbk, _, HSK.out⟩
end
end Go.Proofs.Ytcjohlbglbcglaa
