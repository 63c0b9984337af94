/- Step without a ring. -/
import Derived.Test.YtcjohlbglbcglaaStep
namespace Go.Proofs.Ytcjohlbglbcglaa
open Go Go.RowKit Go.Shelf
set_option linter.unusedVariables false
set_option linter.unusedSimpArgs false
set_option maxRecDepth 100000

attribute [local go_sem] Oper.semAt_some

theorem batch1_nil_in (F : Fence) (n : Nat) (hFw : F = Fence.wide) (hn : 3 ≤ n) (l q f : Nat) (W : World) (hq : W.cell? ⟨q, 0, none⟩ = some (.pointer none)) :
    CallsIn F n Try.prog 36 #[.func (.yield l) #[] #[], .pointer (some ⟨q, 0, none⟩), .pointer (some ⟨f, 0, none⟩)] W fun e W' => (∃ v, e = .returned v) ∧ W' = W := by
  have h1 : 1 ≤ n := by omega
  have hro : F.round = none := by rw [hFw]; rfl
  have hf : ∀ k, F.fn k := fun k => by rw [hFw]; trivial
  have HC : Hid (∀ (f n : Nat) (args : Array Value) (w : World) (R : Ending → World → Prop), Calls Try.prog f args w R → CallsIn F n Try.prog f args w R) := Lib.hid (fun f n args w R h => by rw [hFw]; exact callsIn_wide.2 h)
  clear hFw
  refine callsIn_of_wp Try.func36 rfl (hf _) ?_ hro
  simp only [Try.ntmps36, List.size_toArray, List.length_cons, List.length_nil, Nat.reduceAdd, Nat.reduceSub, Array.replicate_succ, Array.replicate_zero, List.push_toArray, List.append_toArray, List.nil_append, List.cons_append]
  gi_wp2
  gi_loopw [4] (fun s4 wr => Hid (wr = W)) (fun _ _ => 0)
  case atStart => exact Lib.hid rfl
  case round =>
    have hq2 : wr.cell? ⟨q, 0, none⟩ = some (.pointer none) := by rw [hrel.out]; exact hq
    have HW := hrel
    clear hrel hq
    gi_wp2_with (gi_at_call 37; refine (HC.out _ _ _ _ _ (ri_peek_nil 0 _)).mono ?_; rintro e w1 ⟨rfl, rfl⟩)
    refine bodyPost_ret (results_none rfl _ _ _) rfl ?_
    exact ⟨⟨_, rfl⟩, HW.out⟩
theorem batch_nil (fn : Fn) (cs : Array Value) (w : World) (F : Fence) (n : Nat) (hf : F.fn 25) (hro : F.round = none) :
    CallsIn F n Try.prog 25 #[.pointer none, .func fn #[] cs] w fun e w' => e = .returned (.func (.func 36) #[] #[.pointer (some ⟨w.heap.size, 0, none⟩), .pointer (some ⟨w.heap.size + 1, 0, none⟩)]) ∧
      w' = (w.alloc (.cells #[.pointer none] 26)).alloc (.cells #[.func fn #[] cs] 46) := by
  have hmf : ∀ (fn : Fn) (first cap : Array Value) (w : World), (Instr.makeFunc fn first cap).run Try.prog w = .ok (.func fn first cap) w := fun _ _ _ _ => rfl
  refine callsIn_of_wp Try.func25 rfl hf ?_ hro
  simp only [Try.ntmps25, List.size_toArray, List.length_cons, List.length_nil, Nat.reduceAdd, Nat.reduceSub, Array.replicate_succ, Array.replicate_zero, List.push_toArray, List.append_toArray, List.nil_append, List.cons_append]
  gi_wp2
  go_ret
  exact ⟨rfl, rfl⟩
section
variable {w w1 : World} {lim : Int}
def W0n (w1 : World) (z : Nat) : World :=
  (((w1.alloc (.cells #[bndF (z + 1)] 43)).alloc (.cells #[.slice none 0 0] 22)).alloc (.cells #[.pointer none] 26)).alloc (.cells #[nowF z] 46)
theorem step_start_nil {wv : Value} (bl : Below (w.heap.size + 1) (w.alloc (.cells #[wv] 24)) w1) (hz : w1.heap.size = w.heap.size + 1 + 3) :
    (W0n w1 w.heap.size).heap.size = w.heap.size + 8 ∧ Boxed (W0n w1 w.heap.size) (w.heap.size + 5) 22 (.slice none 0 0) ∧ (W0n w1 w.heap.size).cell? ⟨w.heap.size + 6, 0, none⟩ = some (.pointer none) ∧ Below w.heap.size w (W0n w1 w.heap.size) := by
  have e1 : Below w.heap.size w w1 := ((Below.refl _ w).alloc (Nat.le_refl _) _).trans (bl.mono (by omega))
  have n2 := Blk.new (w1.alloc (.cells #[bndF (w.heap.size + 1)] 43)) 22 #[.slice none 0 0]
  have n3 := Blk.new ((w1.alloc (.cells #[bndF (w.heap.size + 1)] 43)).alloc (.cells #[.slice none 0 0] 22)) 26 #[.pointer none]
  simp only [World.size_alloc, hz, Nat.add_assoc, Nat.reduceAdd] at n2 n3
  refine ⟨by simp [W0n, hz], (n2.alloc _).alloc _, (n3.alloc _).cell 0, ?_⟩
  exact (((e1.alloc (by omega) _).alloc (by simp; omega) _).alloc (by simp; omega) _).alloc (by simp; omega) _
set_option maxHeartbeats 2000000 in
theorem step_nil_in (F : Fence) (n : Nat) (hFw : F = Fence.wide) (hn : 6 ≤ n) :
    CallsIn F n Try.prog 11 #[.pointer none, .int .u64 lim, .slice none 0 0] w fun e w' => e = .returned (.slice none 0 0) ∧ Below w.heap.size w w' := by
  have h1 : 1 ≤ n := by omega
  have hro : F.round = none := by rw [hFw]; rfl
  have hf : ∀ k, F.fn k := fun k => by rw [hFw]; trivial
  have HC : Hid (∀ (f n : Nat) (args : Array Value) (w : World) (R : Ending → World → Prop), Calls Try.prog f args w R → CallsIn F n Try.prog f args w R) := Lib.hid (fun f n args w R h => by rw [hFw]; exact callsIn_wide.2 h)
  have HFW := Lib.hid hFw
  have hmf : ∀ (fn : Fn) (first cap : Array Value) (w : World), (Instr.makeFunc fn first cap).run Try.prog w = .ok (.func fn first cap) w := fun _ _ _ _ => rfl
  clear hFw
  refine callsIn_of_wp_marks Try.func11 rfl (hf _) ?_ hro
  simp only [Try.ntmps11, List.size_toArray, List.length_cons, List.length_nil, Nat.reduceAdd, Nat.reduceSub, Array.replicate_succ, Array.replicate_zero, List.push_toArray, List.append_toArray, List.nil_append, List.cons_append]
  gi_wp2_with (first | (gi_at_call 22; refine (HC.out _ _ _ _ _ (boundaries_any lim _)).mono ?_; rintro e w1 ⟨rfl, hb1, bl1, hz1⟩; rw [World.size_alloc] at hb1 bl1 hz1; unfold bndF; have HZ1 := Lib.hid (And.intro hb1 (And.intro bl1 hz1)); clear hb1 bl1 hz1) | (gi_at_call 25; refine (batch_nil _ _ _ F (n - 1) (hf _) hro).mono ?_; rintro e w2 ⟨rfl, rfl⟩))
  obtain ⟨hz0, hx0, hq0, hb0⟩ := step_start_nil HZ1.out.2.1 HZ1.out.2.2
  have hzz := HZ1.out.2.2
  rw [hzz]
  simp only [Nat.add_assoc, Nat.reduceAdd]
  show Code.wpIn _ _ _ _ _ _ (W0n w1 w.heap.size)
  generalize W0n w1 w.heap.size = W at *
  clear HZ1 hzz hmf
  refine wpIn_rangeFunc_joint hro h1 (gf := 36) (lb := #[.pointer (some ⟨w.heap.size + 6, 0, none⟩), .pointer (some ⟨w.heap.size + 7, 0, none⟩)]) rfl (hf _) (enters_of Try.func36 (by kernel_rfl) rfl)
    (encs := fun x : Nat => #[.int .i64 x]) (fun _ => rfl) (fun _ _ => False) (fun _ _ => False)
    (fun W' => Boxed W' (w.heap.size + 5) 22 (.slice none 0 0) ∧ Below w.heap.size w W')
    (fun _ _ _ _ h _ _ => h) (fun _ _ _ _ h _ _ => h)
    (fun s A B' row h hg hr => ⟨h.1.kept hg (fun e => by have := (hr _ e.symm).1; omega), h.2.trans ((Below.refl _ A).grown hg h.2.size (fun r e => by have := (hr r e).1; omega))⟩)
    (fun x => { tmps := #[.pointer none, .int .u64 lim, .slice none 0 0, undef, undef, .pointer (some ⟨w.heap.size, 0, none⟩), .slice none 0 0, .pointer (some ⟨w.heap.size + 4, 0, none⟩), nowF w.heap.size, .pointer (some ⟨w.heap.size + 5, 0, none⟩), .int .i64 x, .int .u64 lim, bndF (w.heap.size + 1), nowF w.heap.size, .pointer none, nowF w.heap.size, .func (.func 36) #[] #[.pointer (some ⟨w.heap.size + 6, 0, none⟩), .pointer (some ⟨w.heap.size + 7, 0, none⟩)], .int .i64 x, undef, undef, undef, undef, undef], defers := [] }) ?assign ?body ?it ?done
  case assign =>
    intro l x W K hK
    gi_wp2
    exact hK
  case body => exact fun l x W h => h.elim
  case it =>
    intro l Bk hBk hY W1 hb hbl2
    refine (batch1_nil_in F (n - 1) HFW.out (by omega) l (w.heap.size + 6) (w.heap.size + 7) W1 (hbl2.cell (p := ⟨w.heap.size + 6, 0, none⟩) (by simp; omega) |>.trans hq0)).mono ?_
    rintro e W' ⟨he, rfl⟩
    exact ⟨he, hb, hx0.kept (only_of_below hbl2 none) (by simp), hb0.trans (hbl2.mono hb0.size)⟩
  case done =>
    rintro D W2 hD ⟨hv, hb⟩ hK
    have hc := hv.cell
    have HB2 := Lib.hid (hb.trans (belowK_b (w := w) (Nat.le_refl _) W2 D (.deferred (some [])) (.deferred none) (by omega) hK rfl rfl))
    clear hv hb
    gi_wp2
    refine ⟨by simp, .inl ⟨_, _, rfl, run_takeDeferred hK, ?_⟩⟩
    exact ⟨_, results_tmp rfl _ _ _, rfl, HB2.out⟩
theorem step_nil : Calls Try.prog 11 #[.pointer none, .int .u64 lim, .slice none 0 0] w fun e w' => e = .returned (.slice none 0 0) ∧ Below w.heap.size w w' :=
  (callsIn_wide (n := 6)).1 (step_nil_in Fence.wide 6 rfl (Nat.le_refl _))
end
end Go.Proofs.Ytcjohlbglbcglaa
