/- Bounds as function values: exit, plus, withdraw, pay; Exit, Withdraw, Pay. -/
import Derived.Test.YtjleklhajmhekaaBnd
import Derived.Laws.EntriesVeiled
import Derived.Test.YtjleklhajmhekaaBuild
namespace Go.Proofs.Ytjleklhajmhekaa
open Go Go.RowKit
set_option linter.unusedVariables false
set_option linter.unusedSimpArgs false
set_option maxRecDepth 100000

theorem later_all (e : Int) (a : Option Addr) (len cap : Nat) (z : List Int) (w : World) (hlen : len ≤ 9223372036854775807)
    (hz : ∀ i, i < len → -9223372036854775808 ≤ z.getD i 0 ∧ z.getD i 0 ≤ 9223372036854775807)
    (hc : 0 < len → ∃ b off, a = some ⟨b, off, none⟩ ∧ ∀ i, i < len → w.cell? ⟨b, off + i, none⟩ = some (.int .i64 (z.getD i 0))) :
    Calls Try.prog 49 #[.int .i64 e, .slice a len cap] w fun o w' => o = .returned (laterIs (laterTo e z len)) ∧ w = w' := by
  by_cases h : 0 ≤ e ∧ e ≤ 1099511627776
  · exact later_any e a len cap z w h.1 h.2 hlen hz hc
  · have := laterTo_none (e := e) (z := z) (k := 0) (if_neg h) len
    rw [Nat.zero_add] at this
    rw [this]
    exact later_out e a len cap w (by omega)
theorem refLater_all (e : Int) (a : Option Addr) (len cap : Nat) (z : List Int) (w : World) (hlen : len ≤ 9223372036854775807)
    (hz : ∀ i, i < len → -9223372036854775808 ≤ z.getD i 0 ∧ z.getD i 0 ≤ 9223372036854775807)
    (hc : 0 < len → ∃ b off, a = some ⟨b, off, none⟩ ∧ ∀ i, i < len → w.cell? ⟨b, off + i, none⟩ = some (.int .i64 (z.getD i 0))) :
    Calls Try.prog 30 #[.int .i64 e, .slice a len cap] w fun o w' => o = .returned (laterIs (laterTo e z len)) ∧ ∃ m, w' = w.drewN m := by
  by_cases h : 0 ≤ e ∧ e ≤ 1099511627776
  · exact refLater_any e a len cap z w h.1 h.2 hlen hz hc
  · have := laterTo_none (e := e) (z := z) (k := 0) (if_neg h) len
    rw [Nat.zero_add] at this
    rw [this]
    refine (refLater_out e a len cap w (by omega)).mono ?_
    rintro o w' ⟨ho, rfl⟩
    exact ⟨ho, 0, rfl⟩

/-- A bound of something that happens n epochs after something else. -/
def plusG (g : Int → Option Int) (n : Int) : Int → Option Int := fun e => match g e with | none => none | some s => laterTo s [n] 1
/-- P18.2. -/
def exitG (a x : Int) (c : Nat → Int) : Int → Option Int := fun e => match bnd a x c with | none => none | some k => laterTo e [k, 1] 2
def withdrawG (a x : Int) (c : Nat → Int) : Int → Option Int := plusG (exitG a x c) (c 10)
def payG (a x : Int) (c : Nat → Int) : Int → Option Int := plusG (withdrawG a x c) (sweepN c)
/-- f, called in any world that is no older than w, answers as g does. -/
def IsBound (w : World) (f : Value) (g : Int → Option Int) : Prop :=
  ∃ (F : Nat) (caps : Array Value), f = .func (.func F) #[] caps ∧ (∀ args w, (callFunc F args).run Try.prog w = .ok (.enter F args) w) ∧
    ∀ w1 e, Below w.heap.size w w1 → Calls Try.prog F (#[.int .i64 e] ++ caps) w1 fun o w2 => o = .returned (laterIs (g e)) ∧ Below w1.heap.size w1 w2
theorem IsBound.below {w w' : World} {f : Value} {g : Int → Option Int} (h : IsBound w f g) (hb : Below w.heap.size w w') : IsBound w' f g := by
  obtain ⟨F, caps, h1, h2, h3⟩ := h
  exact ⟨F, caps, h1, h2, fun w1 e hb1 => h3 w1 e (hb.trans (hb1.mono hb.size))⟩
theorem old_cell {w w1 : World} {g : Nat} {v : Value} (h : w.cell? ⟨g, 0, none⟩ = some v) (hb : Below w.heap.size w w1) : w1.cell? ⟨g, 0, none⟩ = some v :=
  (hb.cell (p := ⟨g, 0, none⟩) (cell_lt h)).trans h
theorem one_cell (w : World) (n : Int) (t : TypeId) : ∀ i, i < 1 → (w.alloc (.cells #[.int .i64 n] t)).cell? ⟨w.heap.size, 0 + i, none⟩ = some (.int .i64 (([n] : List Int).getD i 0)) := fun i hi => by
  obtain rfl : i = 0 := by omega
  rw [Nat.zero_add, (Blk.new w t _).cell]
  rfl
theorem two_cells (w : World) (m n : Int) (t : TypeId) : ∀ i, i < 2 → (w.alloc (.cells #[.int .i64 m, .int .i64 n] t)).cell? ⟨w.heap.size, 0 + i, none⟩ = some (.int .i64 (([m, n] : List Int).getD i 0)) := fun i hi => by
  rw [Nat.zero_add, (Blk.new w t _).cell]
  have : i = 0 ∨ i = 1 := by omega
  rcases this with rfl | rfl <;> rfl
section
variable {a x : Int} {c : Nat → Int}
/-- The closure that exit makes. -/
theorem exit1_any (hg : Good c) (ha : Amt a) (hx : Amt x) (b0 b1 b2 : Nat) (e : Int) (w : World) (h0 : w.cell? ⟨b0, 0, none⟩ = some (.int .u64 a)) (h1 : w.cell? ⟨b1, 0, none⟩ = some (.int .u64 x)) (h2 : Blk w b2 26 (cellsOf c)) :
    Calls Try.prog 48 #[.int .i64 e, .pointer (some ⟨b0, 0, none⟩), .pointer (some ⟨b1, 0, none⟩), .pointer (some ⟨b2, 0, none⟩)] w fun o w' => o = .returned (laterIs (exitG a x c e)) ∧ Below w.heap.size w w' := by
  have HB := Lib.hid (fun w => boundaries_any hg ha hx w)
  have H2 := Lib.hid h2
  have HG := Lib.hid (show exitG a x c e = (match bnd a x c with | none => none | some k => laterTo e [k, 1] 2) from rfl)
  have HK := Lib.hid (fun k (h : bnd a x c = some k) => bnd_bd h)
  clear h2 hg ha hx
  generalize hq : bnd a x c = q at *
  clear hq
  go_enter Try.func48, Try.ntmps48
  go_wp2_with (first | (refine wpList_load_row rfl 26 _ rfl b2 rfl 26 _ (0, 0) _ H2.out Try.underlying26 rfl info24 ?_))
  refine (HB.out _).mono ?_
  rintro o w1 ⟨rfl, b1⟩
  have B1 := Lib.hid b1
  clear b1 HB H2
  rcases q with _ | k
  · unfold laterIs
    go_wp2_with (fail)
    go_ret2
    exact ⟨by rw [HG.out]; rfl, B1.out⟩
  · have HL := Lib.hid (later_all e (some ⟨w1.heap.size, 0, none⟩) 2 2 [k, 1] (w1.alloc (.cells #[.int .i64 k, .int .i64 1] 3)) (by omega) (fun i hi => by
      have := HK.out k rfl
      have : i = 0 ∨ i = 1 := by omega
      rcases this with rfl | rfl
      · show -9223372036854775808 ≤ k ∧ k ≤ 9223372036854775807
        omega
      · show -9223372036854775808 ≤ (1 : Int) ∧ (1 : Int) ≤ 9223372036854775807
        omega) (fun _ => ⟨_, _, rfl, two_cells w1 k 1 3⟩))
    have B2 : Hid (Below w.heap.size w (w1.alloc (.cells #[.int .i64 k, .int .i64 1] 3))) := Lib.hid (B1.out.alloc B1.out.size _)
    unfold laterIs
    go_wp2_with (fail)
    refine HL.out.mono ?_
    rintro o w2 ⟨rfl, rfl⟩
    have HG : Hid (exitG a x c e = laterTo e [k, 1] 2) := HG
    generalize hr : laterTo e [k, 1] 2 = r at *
    rcases r with _ | s
    · unfold laterIs
      go_wp2_with (fail)
      go_ret2
      exact ⟨by rw [HG.out]; rfl, B2.out⟩
    · unfold laterIs
      go_wp2_with (fail)
      go_ret2
      exact ⟨by rw [HG.out]; rfl, B2.out⟩
theorem exit_any (hg : Good c) (ha : Amt a) (hx : Amt x) (w : World) :
    Calls Try.prog 29 #[.int .u64 a, .int .u64 x, .agg (cellsOf c)] w fun o w' => ∃ f, o = .returned f ∧ IsBound w' f (exitG a x c) ∧ Below w.heap.size w w' := by
  have hmf : ∀ (fn : Fn) (first cap : Array Value) (w : World), (Instr.makeFunc fn first cap).run Try.prog w = .ok (.func fn first cap) w := fun _ _ _ _ => rfl
  have HB : Hid (Below w.heap.size w (((w.alloc (.cells #[.int .u64 a] 22)).alloc (.cells #[.int .u64 x] 22)).alloc (.cells (cellsOf c) 26))) := Lib.hid ((((Below.refl _ _).alloc (Nat.le_refl _) _).alloc (by simp) _).alloc (by simp; omega) _)
  have HI : Hid (IsBound (((w.alloc (.cells #[.int .u64 a] 22)).alloc (.cells #[.int .u64 x] 22)).alloc (.cells (cellsOf c) 26)) (.func (.func 48) #[] #[.pointer (some ⟨w.heap.size, 0, none⟩), .pointer (some ⟨w.heap.size + 1, 0, none⟩), .pointer (some ⟨w.heap.size + 2, 0, none⟩)]) (exitG a x c)) := Lib.hid (by
    have k0 : Blk (((w.alloc (.cells #[.int .u64 a] 22)).alloc (.cells #[.int .u64 x] 22)).alloc (.cells (cellsOf c) 26)) w.heap.size 22 #[.int .u64 a] := ((Blk.new w _ _).alloc _).alloc _
    have k1 : Blk (((w.alloc (.cells #[.int .u64 a] 22)).alloc (.cells #[.int .u64 x] 22)).alloc (.cells (cellsOf c) 26)) (w.heap.size + 1) 22 #[.int .u64 x] := by
      have := (Blk.new (w.alloc (.cells #[.int .u64 a] 22)) 22 #[.int .u64 x]).alloc (.cells (cellsOf c) 26)
      rwa [show (w.alloc (.cells #[.int .u64 a] 22)).heap.size = w.heap.size + 1 by simp] at this
    have k2 : Blk (((w.alloc (.cells #[.int .u64 a] 22)).alloc (.cells #[.int .u64 x] 22)).alloc (.cells (cellsOf c) 26)) (w.heap.size + 2) 26 (cellsOf c) := by
      have := Blk.new ((w.alloc (.cells #[.int .u64 a] 22)).alloc (.cells #[.int .u64 x] 22)) 26 (cellsOf c)
      rwa [show ((w.alloc (.cells #[.int .u64 a] 22)).alloc (.cells #[.int .u64 x] 22)).heap.size = w.heap.size + 2 by simp] at this
    exact ⟨_, _, rfl, Try.call48, fun w1 e hb => exit1_any hg ha hx _ _ _ e w1 ((k0.below hb k0.lt).cell 0) ((k1.below hb k1.lt).cell 0) (k2.below hb k2.lt)⟩)
  clear hg ha hx
  go_enter Try.func29, Try.ntmps29
  go_wp2
  go_ret
  exact ⟨_, rfl, HI.out, HB.out⟩
end
section
variable {g : Int → Option Int} {n : Int}
theorem plus1_any (bf bs g0 : Nat) (f : Value) (e : Int) (w0 w : World) (hf : IsBound w0 f g) (hb : Below w0.heap.size w0 w) (h0 : w.cell? ⟨bf, 0, none⟩ = some f) (h1 : w.cell? ⟨bs, 0, none⟩ = some (.slice (some ⟨g0, 0, none⟩) 1 1)) (h2 : w.cell? ⟨g0, 0, none⟩ = some (.int .i64 n)) (hn : 0 ≤ n ∧ n ≤ 9223372036854775807) :
    Calls Try.prog 55 #[.int .i64 e, .pointer (some ⟨bf, 0, none⟩), .pointer (some ⟨bs, 0, none⟩)] w fun o w' => o = .returned (laterIs (plusG g n e)) ∧ Below w.heap.size w w' := by
  obtain ⟨F, caps, rfl, hcall, hrun⟩ := hf
  have HR := Lib.hid (hrun w e hb)
  have HG := Lib.hid (show plusG g n e = (match g e with | none => none | some s => laterTo s [n] 1) from rfl)
  have H1 := Lib.hid (And.intro h1 h2)
  clear hrun hb h2
  generalize hq : g e = q at *
  clear hq
  go_enter Try.func55, Try.ntmps55
  go_wp2_with (fail)
  refine HR.out.mono ?_
  rintro o w1 ⟨rfl, b1⟩
  have B1 := Lib.hid b1
  have c1 : w1.cell? ⟨bs, 0, none⟩ = some (.slice (some ⟨g0, 0, none⟩) 1 1) := old_cell H1.out.1 b1
  have C2 : Hid (w1.cell? ⟨g0, 0, none⟩ = some (.int .i64 n)) := Lib.hid (old_cell H1.out.2 b1)
  clear b1 HR h0 h1 hcall H1
  rcases q with _ | s
  · unfold laterIs
    go_wp2_with (fail)
    go_ret2
    exact ⟨by rw [HG.out]; rfl, B1.out⟩
  · have HL := Lib.hid (later_all s (some ⟨g0, 0, none⟩) 1 1 [n] w1 (by omega) (fun i hi => by
      obtain rfl : i = 0 := by omega
      show -9223372036854775808 ≤ n ∧ n ≤ 9223372036854775807
      omega) (fun _ => ⟨_, _, rfl, fun i hi => by
        obtain rfl : i = 0 := by omega
        exact C2.out⟩))
    unfold laterIs
    go_wp2_with (fail)
    refine HL.out.mono ?_
    rintro o w2 ⟨rfl, rfl⟩
    have HG : Hid (plusG g n e = laterTo s [n] 1) := HG
    generalize hr : laterTo s [n] 1 = r at *
    rcases r with _ | s2
    · unfold laterIs
      go_wp2_with (fail)
      go_ret2
      exact ⟨by rw [HG.out]; rfl, B1.out⟩
    · unfold laterIs
      go_wp2_with (fail)
      go_ret2
      exact ⟨by rw [HG.out]; rfl, B1.out⟩
theorem plus_any (f : Value) (g0 : Nat) (w : World) (hf : IsBound w f g) (h2 : w.cell? ⟨g0, 0, none⟩ = some (.int .i64 n)) (hn : 0 ≤ n ∧ n ≤ 9223372036854775807) :
    Calls Try.prog 51 #[f, .slice (some ⟨g0, 0, none⟩) 1 1] w fun o w' => ∃ f', o = .returned f' ∧ IsBound w' f' (plusG g n) ∧ Below w.heap.size w w' := by
  have hmf : ∀ (fn : Fn) (first cap : Array Value) (w : World), (Instr.makeFunc fn first cap).run Try.prog w = .ok (.func fn first cap) w := fun _ _ _ _ => rfl
  obtain ⟨F, caps, rfl, hcall, hrun⟩ := hf
  have hf : IsBound w (.func (.func F) #[] caps) g := ⟨F, caps, rfl, hcall, hrun⟩
  have hbel : Below w.heap.size w ((w.alloc (.cells #[.func (.func F) #[] caps] 65)).alloc (.cells #[.slice (some ⟨g0, 0, none⟩) 1 1] 41)) := ((Below.refl _ _).alloc (Nat.le_refl _) _).alloc (by simp) _
  have HB := Lib.hid hbel
  have HI : Hid (IsBound ((w.alloc (.cells #[.func (.func F) #[] caps] 65)).alloc (.cells #[.slice (some ⟨g0, 0, none⟩) 1 1] 41)) (.func (.func 55) #[] #[.pointer (some ⟨w.heap.size, 0, none⟩), .pointer (some ⟨w.heap.size + 1, 0, none⟩)]) (plusG g n)) := Lib.hid (by
    have k0 : Blk ((w.alloc (.cells #[.func (.func F) #[] caps] 65)).alloc (.cells #[.slice (some ⟨g0, 0, none⟩) 1 1] 41)) w.heap.size 65 #[.func (.func F) #[] caps] := (Blk.new w _ _).alloc _
    have k1 : Blk ((w.alloc (.cells #[.func (.func F) #[] caps] 65)).alloc (.cells #[.slice (some ⟨g0, 0, none⟩) 1 1] 41)) (w.heap.size + 1) 41 #[.slice (some ⟨g0, 0, none⟩) 1 1] := by
      have := Blk.new (w.alloc (.cells #[.func (.func F) #[] caps] 65)) 41 #[.slice (some ⟨g0, 0, none⟩) 1 1]
      rwa [show (w.alloc (.cells #[.func (.func F) #[] caps] 65)).heap.size = w.heap.size + 1 by simp] at this
    exact ⟨_, _, rfl, Try.call55, fun w1 e hb => plus1_any _ _ g0 _ e w w1 hf (hbel.trans (hb.mono hbel.size)) ((k0.below hb k0.lt).cell 0) ((k1.below hb k1.lt).cell 0) (old_cell (old_cell h2 hbel) hb) hn⟩)
  clear hf hcall hrun hbel h2 hn
  go_enter Try.func51, Try.ntmps51
  go_wp2
  go_ret
  exact ⟨_, rfl, HI.out, HB.out⟩
end
end Go.Proofs.Ytjleklhajmhekaa
