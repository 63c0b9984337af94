/- The reference's Request (written by mkrefr.py). -/
import Derived.Test.YtnaheindlkehhaaRefC
namespace Go.Proofs.Ytnaheindlkehhaa
open Go Go.RowKit Go.Deep
set_option linter.unusedVariables false
set_option linter.unusedSimpArgs false
set_option maxRecDepth 100000

theorem refreq_out (a : Option Addr) (n cp : Nat) (p1 p2 : Int) (c : Nat → Int) (w : World) (h : p1 < 0 ∨ p2 < 0 ∨ (n : Int) ≤ p1 ∨ (n : Int) ≤ p2) :
    Calls Try.prog 16 #[.slice a n cp, .int .i64 p1, .int .i64 p2, .agg (cellsOf c)] w fun e w' => e = .returned (.int .i64 7) ∧ Below w.heap.size w w' := by
  by_cases h1 : p1 < 0
  · have d1 : decide (p1 < 0) = true := by simpa using h1
    clear h h1
    go_enter Try.func16, Try.ntmps16
    go_wp2
    go_ret
    exact ⟨rfl, (Below.refl _ _).alloc (Nat.le_refl _) _⟩
  · have d1 : decide (p1 < 0) = false := by simpa using h1
    by_cases h2 : p2 < 0
    · have d2 : decide (p2 < 0) = true := by simpa using h2
      clear h h1 h2
      go_enter Try.func16, Try.ntmps16
      go_wp2
      go_ret
      exact ⟨rfl, (Below.refl _ _).alloc (Nat.le_refl _) _⟩
    · have d2 : decide (p2 < 0) = false := by simpa using h2
      by_cases h3 : (n : Int) ≤ p1
      · have d3 : decide ((n : Int) ≤ p1) = true := by simpa using h3
        clear h h1 h2 h3
        go_enter Try.func16, Try.ntmps16
        go_wp2
        go_ret
        exact ⟨rfl, (Below.refl _ _).alloc (Nat.le_refl _) _⟩
      · have d3 : decide ((n : Int) ≤ p1) = false := by simpa using h3
        by_cases h4 : (n : Int) ≤ p2
        · have d4 : decide ((n : Int) ≤ p2) = true := by simpa using h4
          clear h h1 h2 h3 h4
          go_enter Try.func16, Try.ntmps16
          go_wp2
          go_ret
          exact ⟨rfl, (Below.refl _ _).alloc (Nat.le_refl _) _⟩
        · have d4 : decide ((n : Int) ≤ p2) = false := by simpa using h4
          omega
theorem refreq_same (a : Option Addr) (n cp : Nat) (p : Nat) (c : Nat → Int) (w : World) (h : p < n) :
    Calls Try.prog 16 #[.slice a n cp, .int .i64 p, .int .i64 p, .agg (cellsOf c)] w fun e w' => e = .returned (.int .i64 12) ∧ Below w.heap.size w w' := by
  have d1 : decide ((p : Int) < 0) = false := decide_eq_false (by omega)
  have d3 : decide ((n : Int) ≤ (p : Int)) = false := decide_eq_false (by omega)
  have d5 : decide (n ≤ p) = false := decide_eq_false (by omega)
  have d6 : ((p : Int) == (p : Int)) = true := by simp
  clear h
  go_enter Try.func16, Try.ntmps16
  go_wp2
  go_ret
  exact ⟨rfl, (Below.refl _ _).alloc (Nat.le_refl _) _⟩
set_option maxHeartbeats 800000 in
theorem refreq_chk (S : Nat → Prop) (a : Option Addr) (l : List Val) (cp i j : Nat) (s d : Val) (c : Nat → Int) (w : World) (hL : Lst w S a l) (hi : l[i]? = some s) (hj : l[j]? = some d) (hne : i ≠ j) (hs : FitsV s) (hd : FitsV d) :
    Calls Try.prog 16 #[.slice a l.length cp, .int .i64 i, .int .i64 j, .agg (cellsOf c)] w fun e w' => e = .returned (.int .i64 (chkM s d (c 6))) ∧ Below w.heap.size w w' := by
  have hil := (List.getElem?_eq_some_iff.1 hi).1
  have hjl := (List.getElem?_eq_some_iff.1 hj).1
  obtain ⟨n, hn⟩ : ∃ n, l.length = n := ⟨_, rfl⟩
  rw [hn] at hil hjl ⊢
  have HC := Lib.hid (fun w => refchk_any s d c w hs hd)
  generalize chkM s d (c 6) = r at *
  obtain ⟨g, off, rfl, rs⟩ := hL.at hi
  obtain ⟨g', off', e', rd⟩ := hL.at hj
  injection e' with e'
  injection e' with e1 e2 e3
  subst e1 e2
  have hg : g < w.heap.size := by
    obtain ⟨b, o, e1, -, e2, -⟩ := hL (by omega)
    injection e1 with e1
    injection e1 with e1
    omega
  have hb : Below w.heap.size w (w.alloc (.cells (cellsOf c) 26)) := (Below.refl _ _).alloc (Nat.le_refl _) _
  have RS : Hid ((w.alloc (.cells (cellsOf c) 26)).rangeAt g (off + i * 7) s.row ∧ (w.alloc (.cells (cellsOf c) 26)).rangeAt g (off + j * 7) d.row ∧ Blk (w.alloc (.cells (cellsOf c) 26)) w.heap.size 26 (cellsOf c) ∧ Below w.heap.size w (w.alloc (.cells (cellsOf c) 26)) ∧ g < (w.alloc (.cells (cellsOf c) 26)).heap.size) :=
    Lib.hid ⟨World.rangeAt.same rs (hb.block g hg), World.rangeAt.same rd (hb.block g hg), Blk.new _ _ _, hb, Nat.lt_of_lt_of_le hg hb.size⟩
  have d1 : decide ((i : Int) < 0) = false := decide_eq_false (by omega)
  have d2 : decide ((j : Int) < 0) = false := decide_eq_false (by omega)
  have d3 : decide ((n : Int) ≤ (i : Int)) = false := decide_eq_false (by omega)
  have d4 : decide ((n : Int) ≤ (j : Int)) = false := decide_eq_false (by omega)
  have d5 : decide (n ≤ i) = false := decide_eq_false (by omega)
  have d6 : decide (n ≤ j) = false := decide_eq_false (by omega)
  have d7 : ((i : Int) == (j : Int)) = false := by simp; omega
  have k1 : ¬ (i : Int) < 0 := by omega
  have k2 : ¬ (n : Int) ≤ (i : Int) := by omega
  have k3 : (i : Int) < (n : Int) := by omega
  have m1 : ¬ (j : Int) < 0 := by omega
  have m2 : ¬ (n : Int) ≤ (j : Int) := by omega
  have m3 : (j : Int) < (n : Int) := by omega
  clear rs rd hL hi hj hs hd e3 hn hb hg
  go_enter Try.func16, Try.ntmps16
  go_upto_region 1 with (fail)
  generalize w.alloc (.cells (cellsOf c) 26) = W at *
  go_wp2
  refine wp_region_class (fun w' => Below W.heap.size W w') (by kernel_rfl) (by kernel_rfl) (Below.refl _ _).drew ?_
  iterate 3 (go_big_quiet_step ((intros; rfl)))
  refine q_load_val 24 _ g (off + i * 7) s _ rfl rfl rfl (fun w' h => World.rangeAt.same RS.out.1 (h.block g RS.out.2.2.2.2)) Try.underlying24 rfl infoV ?_
  simp only [Act.put, List.setIfInBounds_toArray, List.set_cons_zero, List.set_cons_succ]
  iterate 3 (go_big_quiet_step ((intros; rfl)))
  refine q_load_val 24 _ g (off + j * 7) d _ rfl rfl rfl (fun w' h => World.rangeAt.same RS.out.2.1 (h.block g RS.out.2.2.2.2)) Try.underlying24 rfl infoV ?_
  simp only [Act.put, List.setIfInBounds_toArray, List.set_cons_zero, List.set_cons_succ]
  refine q_load 26 _ w.heap.size 26 (cellsOf c) _ rfl rfl rfl (fun w' h => RS.out.2.2.1.below h RS.out.2.2.1.lt) Try.underlying26 rfl info24 ?_
  simp only [Act.put, List.setIfInBounds_toArray, List.set_cons_zero, List.set_cons_succ]
  refine q_call (.int .i64 r) #[.agg (cellsV s), .agg (cellsV d), .agg (cellsOf c)] (by kernel_rfl) (by kernel_rfl) Try.call13 (fun w' h => (HC.out w').mono fun e w'' ⟨he, hb⟩ => ⟨he, h.trans (hb.mono h.size)⟩) ?_
  simp only [Act.put, List.setIfInBounds_toArray, List.set_cons_zero, List.set_cons_succ]
  go_big_quiet_step ((intros; rfl))
  refine wpQuiet_nil ?_
  intro w3 b3
  have B3 := Lib.hid (RS.out.2.2.2.1.trans (b3.mono RS.out.2.2.2.1.size))
  go_wp2
  go_ret
  exact ⟨rfl, B3.out⟩
theorem refreq_any (S : Nat → Prop) (a : Option Addr) (l : List Val) (cp : Nat) (p : Int × Int) (c : Nat → Int) (w : World) (hL : Lst w S a l) (hf : ∀ v ∈ l, FitsV v) :
    Calls Try.prog 16 #[.slice a l.length cp, .int .i64 p.1, .int .i64 p.2, .agg (cellsOf c)] w fun e w' => e = .returned (.int .i64 (reqM l p (c 6))) ∧ Below w.heap.size w w' := by
  obtain ⟨p1, p2⟩ := p
  by_cases h : 0 ≤ p1 ∧ 0 ≤ p2 ∧ p1 < l.length ∧ p2 < l.length
  · obtain ⟨i, rfl⟩ := Int.eq_ofNat_of_zero_le h.1
    obtain ⟨j, rfl⟩ := Int.eq_ofNat_of_zero_le h.2.1
    obtain ⟨s, hs⟩ : ∃ s, l[i]? = some s := ⟨_, List.getElem?_eq_getElem (by omega)⟩
    obtain ⟨d, hd⟩ : ∃ d, l[j]? = some d := ⟨_, List.getElem?_eq_getElem (by omega)⟩
    rw [req_at (c 6) hs hd]
    by_cases he : i = j
    · subst he
      rw [if_pos rfl]
      exact refreq_same a l.length cp i c w (by omega)
    · rw [if_neg he]
      exact refreq_chk S a l cp i j s d c w hL hs hd he (hf s (List.mem_of_getElem? hs)) (hf d (List.mem_of_getElem? hd))
  · have e : reqM l (p1, p2) (c 6) = 7 := by
      unfold reqM
      rw [if_pos (by simp only; omega)]
    rw [e]
    exact refreq_out a l.length cp p1 p2 c w (by omega)
end Go.Proofs.Ytnaheindlkehhaa
