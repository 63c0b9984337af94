/- The least quotient, rounded up, grows with its dividend and shrinks with its divisor; the changed configuration of DeadlineRises is valid; what the law holds. -/
import Derived.Test.YtjleklhajmhekaaLaw
import Derived.Laws.IdiomArrays
import Derived.ChangeSlices
namespace Go.Proofs.Ytjleklhajmhekaa
open Go Go.ChangeShapes Go.WideShapes Go.RowKit
set_option linter.unusedVariables false
set_option linter.unusedSimpArgs false
set_option maxRecDepth 100000

theorem ceilQ_cover (a d : Int) (hd : 1 ≤ d) : a ≤ ceilQ a d * d := by
  have h1 := Int.mul_ediv_add_emod a d
  have h2 := Int.emod_lt_of_pos a (show 0 < d by omega)
  have h3 := Int.emod_nonneg a (show d ≠ 0 by omega)
  rw [Int.mul_comm] at h1
  unfold ceilQ
  split
  · omega
  · rw [Int.add_mul]; omega
theorem ceilQ_least {a d q : Int} (hd : 1 ≤ d) (h : a ≤ q * d) : ceilQ a d ≤ q := by
  have h1 := Int.mul_ediv_add_emod a d
  have h2 := Int.emod_lt_of_pos a (show 0 < d by omega)
  have h3 := Int.emod_nonneg a (show d ≠ 0 by omega)
  rw [Int.mul_comm] at h1
  have h4 : a / d ≤ q := by
    have := Int.ediv_le_ediv (show 0 < d by omega) h
    rwa [Int.mul_ediv_cancel _ (show d ≠ 0 by omega)] at this
  unfold ceilQ
  split
  · exact h4
  · rename_i hm
    rcases Int.lt_or_le (a / d) q with h5 | h5
    · omega
    · exfalso
      have : a / d = q := by omega
      rw [this] at h1
      omega
theorem ceilQ_mono {a a' d d' : Int} (h0 : 0 ≤ a') (ha : a ≤ a') (hd' : 1 ≤ d') (hd : d' ≤ d) : ceilQ a d ≤ ceilQ a' d' := by
  refine ceilQ_least (by omega) ?_
  have h1 := ceilQ_cover a' d' hd'
  have h2 := ceilQ_nonneg a' d' h0 hd'
  have h3 : ceilQ a' d' * d' ≤ ceilQ a' d' * d := Int.mul_le_mul_of_nonneg_left hd h2
  omega
theorem bnd_mono {a x a' x' k' : Int} {c d : Nat → Int} (h0 : 0 ≤ a + x + c 9) (h1 : a + x + c 9 ≤ a' + x' + d 9) (h2 : 1 ≤ d 7) (h3 : d 7 ≤ c 7) (h : bnd a' x' d = some k') : ∃ k, bnd a x c = some k ∧ k ≤ k' := by
  have hm := ceilQ_mono (a := a + x + c 9) (a' := a' + x' + d 9) (d := c 7) (d' := d 7) (by omega) h1 h2 h3
  unfold bnd at h
  split at h
  · rename_i hh
    injection h with h
    exact ⟨_, bnd_some (by omega) (by omega), by omega⟩
  · cases h
/-- P18.4. -/
theorem lastE_mono {a x a' x' e m m' s' : Int} {c d : Nat → Int} (h0 : 0 ≤ a + x + c 9) (h1 : a + x + c 9 ≤ a' + x' + d 9) (h2 : 1 ≤ d 7) (h3 : d 7 ≤ c 7) (hm : m ≤ m') (h : lastE a' x' d m' e = some s') : ∃ s, lastE a x c m e = some s ∧ s ≤ s' := by
  obtain ⟨k', hk', h4, h5, h6, h7⟩ := lastE_some h
  obtain ⟨k, hk, h8⟩ := bnd_mono h0 h1 h2 h3 hk'
  exact ⟨_, lastE_is hk h5 (by omega), by omega⟩

/-- The configuration with another forced weight, unbonding time and churn. -/
def cfgR (c : Nat → Int) (f u m : Int) : Nat → Int := upd (upd (upd c 9 f) 10 u) 7 m
theorem cfgR_chk {c : Nat → Int} {f u m : Int} (hc : chk c = 0) (hf : f ≤ 1152921504606846976) (hu0 : 1 ≤ u) (hu1 : u < c 11) (hm0 : 1 ≤ m) (hm1 : m ≤ 1152921504606846976) (hl : c 11 ≤ 1048576) : chk (cfgR c f u m) = 0 := by
  rcases chk_cases c with ⟨_, hb⟩ | ⟨k, _, _, _, e⟩
  · refine chk_none (fun j hj => ?_)
    have : j = 0 ∨ j = 1 ∨ j = 2 ∨ j = 3 ∨ j = 4 ∨ j = 5 ∨ j = 6 ∨ j = 7 ∨ j = 8 ∨ j = 9 ∨ j = 10 ∨ j = 11 ∨ j = 12 ∨ j = 13 ∨ j = 14 ∨ j = 15 ∨ j = 16 ∨ j = 17 ∨ j = 18 ∨ j = 19 := by omega
    rcases this with h | h | h | h | h | h | h | h | h | h | h | h | h | h | h | h | h | h | h | h <;> subst h
    · exact hb 0 hj
    · exact hb 1 hj
    · exact hb 2 hj
    · exact hb 3 hj
    · exact hb 4 hj
    · exact hb 5 hj
    · exact hb 6 hj
    · exact btw_yes (v := m) (lo := 1) (hi := most) hm0 hm1
    · exact hb 8 hj
    · exact decide_eq_true (p := f ≤ most) hf
    · exact btw_yes (v := u) (lo := 1) (hi := 1048576) hu0 (by omega)
    · exact decide_eq_true (p := u < c 11 ∧ c 11 ≤ 1048576) ⟨hu1, hl⟩
    · exact hb 12 hj
    · exact hb 13 hj
    · exact hb 14 hj
    · exact hb 15 hj
    · exact hb 16 hj
    · exact hb 17 hj
    · exact hb 18 hj
    · exact hb 19 hj
  · omega
theorem cfgR_good {c : Nat → Int} {f u m : Int} (hg : Good c) (hf0 : 0 ≤ f) (hf : f ≤ 1152921504606846976) (hu0 : 1 ≤ u) (hu1 : u < c 11) (hm0 : 1 ≤ m) (hm1 : m ≤ 1152921504606846976) : Good (cfgR c f u m) :=
  ⟨hg.cap0, hg.cap1, hg.part, hg.vis0, hg.pay0, hg.vis1, hg.pay1, hm0, hm1, hf0, hf, hu0, show u ≤ 1048576 by have := hg.sla1; omega, hu1, hg.sla1, hg.len0, hg.len1⟩
theorem cfgR_sweep (c : Nat → Int) (f u m : Int) : sweepN (cfgR c f u m) = sweepN c := rfl

/-- Four numbers of 32 bits. -/
def cellsQ (q : Nat → Int) : Array Value := #[.int .u32 (q 0), .int .u32 (q 1), .int .u32 (q 2), .int .u32 (q 3)]
def FitsQ (q : Nat → Int) : Prop := ∀ i, i < 4 → 0 ≤ q i ∧ q i ≤ 4294967295
theorem bounds_u32 {n : Int} (h : (Lit.int .u32 n).wf = true) : 0 ≤ n ∧ n ≤ 4294967295 := by
  simp [Lit.wf, IntKind.min, IntKind.max, IntKind.signed, IntKind.bits] at h
  omega
section
variable {H : Type} {enc : TypeId × Value → H} {w : World} {base : Nat} {held : Bool}
theorem open_T35 {r : Reach} {b0 : Nat} {v : Value} {d : DataW H} {p : List MemPlace} (hv : Value.okWide Try.prog w r b0 35 v) (h : DataW.Trod enc Try.prog w base (fun _ => true) held 35 v d p) : ∃ c : Nat → Int, v = .agg (cellsQ c) ∧ FitsQ c := by
  have hu := Try.underlying35
  simp only [Value.okWide, hu] at hv
  obtain ⟨cs, rfl, hsz, _⟩ := hv
  have h4 : Try.prog.cellsOf 35 = 4 := by kernel_rfl
  rw [h4] at hsz
  obtain ⟨l⟩ := cs
  have hl : l.length = 4 := by simpa using hsz
  obtain ⟨fuel, hf⟩ := h
  match l, hl with
  | [v0, v1, v2, v3], _ =>
    obtain ⟨y0, y1, y2, y3, m, _, t0, t1, t2, t3⟩ := trod_array4 hu (by kernel_rfl) (show DataW.trod enc Try.prog w base (fun _ => true) held fuel 35 [v0, v1, v2, v3] = _ from hf)
    obtain ⟨k0, e0, _, q0⟩ := DataW.trod_int Try.underlying34 t0
    obtain ⟨k1, e1, _, q1⟩ := DataW.trod_int Try.underlying34 t1
    obtain ⟨k2, e2, _, q2⟩ := DataW.trod_int Try.underlying34 t2
    obtain ⟨k3, e3, _, q3⟩ := DataW.trod_int Try.underlying34 t3
    injection e0 with e0
    injection e1 with e1
    injection e2 with e2
    injection e3 with e3
    subst e0 e1 e2 e3
    refine ⟨fun i => if i = 0 then k0 else if i = 1 then k1 else if i = 2 then k2 else k3, rfl, fun i hi => ?_⟩
    have g0 := bounds_u32 q0
    have g1 := bounds_u32 q1
    have g2 := bounds_u32 q2
    have g3 := bounds_u32 q3
    dsimp only
    split
    · exact g0
    · split
      · exact g1
      · split
        · exact g2
        · exact g3
end

/-- The law's boxes, and the copies y and d in blocks gy and gd. -/
structure Ris (w0 w : World) (v : Ex) (q : Nat → Int) (c : Nat → Int) (y : Ex) (d : Nat → Int) (gy gd : Nat) : Prop where
  bx : Bx w0 w v c w0.heap.size (w0.heap.size + 2)
  mo : Blk w (w0.heap.size + 1) 35 (cellsQ q)
  yb : Blk w gy 24 (cellsEx y)
  db : Blk w gd 26 (cellsOf d)
  gy3 : w0.heap.size + 3 ≤ gy
  gd3 : w0.heap.size + 3 ≤ gd
  ne : gy ≠ gd
section
variable {w0 w w' : World} {v y : Ex} {q c d : Nat → Int} {gy gd : Nat}
theorem Ris.next (h : Ris w0 w v q c y d gy gd) (b : Below w.heap.size w w') : Ris w0 w' v q c y d gy gd :=
  ⟨h.bx.next b, h.mo.below b h.mo.lt, h.yb.below b h.yb.lt, h.db.below b h.db.lt, h.gy3, h.gd3, h.ne⟩
theorem Ris.set {g : Nat} (h : Ris w0 w v q c y d gy gd) (i : Nat) (u : Value) (hg : w0.heap.size + 3 ≤ g) (h1 : g ≠ gy ∨ g = gy) : Bx w0 (w.setCell ⟨g, i, none⟩ u) v c w0.heap.size (w0.heap.size + 2) ∧ Blk (w.setCell ⟨g, i, none⟩ u) (w0.heap.size + 1) 35 (cellsQ q) := by
  have hsz : (w.setCell ⟨g, i, none⟩ u).heap.size = w.heap.size := by simp [World.setCell]
  refine ⟨⟨h.bx.1.far (p := ⟨g, i, none⟩) (show w0.heap.size ≠ g by omega) u, h.bx.2.1.far (p := ⟨g, i, none⟩) (show w0.heap.size + 2 ≠ g by omega) u, h.bx.2.2.1.setCell (p := ⟨g, i, none⟩) (show w0.heap.size ≤ g by omega) u, by rw [hsz]; exact h.bx.2.2.2⟩, h.mo.far (p := ⟨g, i, none⟩) (show w0.heap.size + 1 ≠ g by omega) u⟩
theorem Ris.ah (h : Ris w0 w v q c y d gy gd) (n : Int) : Ris w0 (w.setCell ⟨gy, 1, none⟩ (.int .u64 n)) v q c { y with ah := n } d gy gd :=
  ⟨(h.set 1 _ h.gy3 (.inr rfl)).1, (h.set 1 _ h.gy3 (.inr rfl)).2, h.yb.set_ 1 _, h.db.far (p := ⟨gy, 1, none⟩) (Ne.symm h.ne) _, h.gy3, h.gd3, h.ne⟩
theorem Ris.wt (h : Ris w0 w v q c y d gy gd) (n : Int) : Ris w0 (w.setCell ⟨gy, 2, none⟩ (.int .u64 n)) v q c { y with wt := n } d gy gd :=
  ⟨(h.set 2 _ h.gy3 (.inr rfl)).1, (h.set 2 _ h.gy3 (.inr rfl)).2, h.yb.set_ 2 _, h.db.far (p := ⟨gy, 2, none⟩) (Ne.symm h.ne) _, h.gy3, h.gd3, h.ne⟩
theorem Ris.fc (h : Ris w0 w v q c y d gy gd) (n : Int) : Ris w0 (w.setCell ⟨gd, 9, none⟩ (.int .u64 n)) v q c y (upd d 9 n) gy gd :=
  ⟨(h.set 9 _ h.gd3 (.inl (Ne.symm h.ne))).1, (h.set 9 _ h.gd3 (.inl (Ne.symm h.ne))).2, h.yb.far (p := ⟨gd, 9, none⟩) h.ne _, h.db.set_ 9 _, h.gy3, h.gd3, h.ne⟩
theorem Ris.ub (h : Ris w0 w v q c y d gy gd) (n : Int) : Ris w0 (w.setCell ⟨gd, 10, none⟩ (.int .i64 n)) v q c y (upd d 10 n) gy gd :=
  ⟨(h.set 10 _ h.gd3 (.inl (Ne.symm h.ne))).1, (h.set 10 _ h.gd3 (.inl (Ne.symm h.ne))).2, h.yb.far (p := ⟨gd, 10, none⟩) h.ne _, h.db.set_ 10 _, h.gy3, h.gd3, h.ne⟩
theorem Ris.ch (h : Ris w0 w v q c y d gy gd) (n : Int) : Ris w0 (w.setCell ⟨gd, 7, none⟩ (.int .u64 n)) v q c y (upd d 7 n) gy gd :=
  ⟨(h.set 7 _ h.gd3 (.inl (Ne.symm h.ne))).1, (h.set 7 _ h.gd3 (.inl (Ne.symm h.ne))).2, h.yb.far (p := ⟨gd, 7, none⟩) h.ne _, h.db.set_ 7 _, h.gy3, h.gd3, h.ne⟩
end
end Go.Proofs.Ytjleklhajmhekaa
