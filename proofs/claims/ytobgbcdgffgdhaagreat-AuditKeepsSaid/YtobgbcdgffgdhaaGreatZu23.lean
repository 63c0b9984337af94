/- Part 23 of 29: Eqs Runs Law Sna Alv. -/
import Derived.Test.YtobgbcdgffgdhaaGreatZu12
import Derived.Test.YtobgbcdgffgdhaaGreatZu22
namespace Go.Proofs.YtobgbcdgffgdhaaGreat
set_option linter.unusedVariables false
set_option linter.unusedSimpArgs false
section
open Go Go.ChangeShapes Go.WideShapes Go.RowKit Go.Deep
set_option maxRecDepth 100000
set_option maxHeartbeats 1600000 in
theorem eqVal_any (a1 a2 : Option Addr) (n1 n2 c1 c2 : Nat) (la lb : List (Val)) (w : World) (S1 S2 : Nat → Prop) (h1 : LstR Val.row 7 w S1 a1 la) (h2 : LstR Val.row 7 w S2 a2 lb) (e1 : la.length = n1) (e2 : lb.length = n2) (b1 : n1 ≤ 9223372036854775807) (b2 : n2 ≤ 9223372036854775807) :
  CallB 27 #[.slice a1 n1 c1, .slice a2 n2 c2] w (.bool (decide (la = lb))) := by
 have H1 := Lib.hid h1
 have H2 := Lib.hid h2
 by_cases hn : n1 = n2
 ·have E1 := Lib.hid e1
  have E2 : Hid (lb.length = n1) := Lib.hid (by rw [hn]; exact e2)
  obtain rfl : n1 = n2 := hn
  clear e1 e2 h1 h2 b2
  go_enter Tryz.func27, Tryz.ntmps27
  go_wp2
  go_loopw [13] (fun i wr => ∃ k : Nat, k ≤ n1 ∧ i = .int .i64 k ∧ Hid (la.take k = lb.take k) ∧ Hid (Below w.heap.size w wr)) (fun i _ => n1 - (intOf i).toNat)
  case atStart => exact ⟨0, by omega, rfl, Lib.hid rfl, Lib.hid (Below.refl _ _)⟩
  case round =>
   obtain ⟨k, hk, rfl, HQ, B1⟩ := hrel
   by_cases hlt : k < n1
   ·obtain ⟨x, hx⟩ : ∃ x, la[k]? = some x := ⟨_, List.getElem?_eq_getElem (by rw [E1.out]; exact hlt)⟩
    obtain ⟨y, hy⟩ : ∃ y, lb[k]? = some y := ⟨_, List.getElem?_eq_getElem (by rw [E2.out]; exact hlt)⟩
    obtain ⟨g1, o1, rfl, _, l1, r1⟩ := H1.out.at hx
    obtain ⟨g2, o2, rfl, _, l2, r2⟩ := H2.out.at hy
    have R1 := Lib.hid (And.intro r1 l1)
    have R2 := Lib.hid (And.intro r2 l2)
    have HX := Lib.hid (And.intro hx hy)
    have HQ2 := Lib.hid (eq_snoc hx hy HQ.out)
    clear r1 r2 l1 l2 hx hy
    have hki : (0 : Int) ≤ (k : Int) := by omega
    have hkn : (k : Int) < (n1 : Int) := by omega
    cases hd : (!decide (x = y)) with
    | true =>
     have HNE : Hid (decide (la = lb) = false) := Lib.hid (decide_eq_false (ne_of_at HX.out.1 HX.out.2 (by simpa using hd)))
     have HD := Lib.hid hd
     clear hd
     go_wp2_with (fail)
     try simp only [Act.put]
     refine wp_region_class (fun w' => Below w.heap.size w w') (by kernel_rfl) (by kernel_rfl) B1.out.drew ?_
     iterate 3 (go_big_quiet_step ((intros; rfl)))
     refine q_load_val 68 _ g1 (o1 + k * 7) x _ rfl rfl rfl (fun w' h => rangeAt_below R1.out.1 R1.out.2 h) Tryz.underlying68 rfl infoV ?_
     simp only [Act.put, List.setIfInBounds_toArray, List.set_cons_zero, List.set_cons_succ]
     iterate 3 (go_big_quiet_step ((intros; rfl)))
     refine q_load_val 68 _ g2 (o2 + k * 7) y _ rfl rfl rfl (fun w' h => rangeAt_below R2.out.1 R2.out.2 h) Tryz.underlying68 rfl infoV ?_
     simp only [Act.put, List.setIfInBounds_toArray, List.set_cons_zero, List.set_cons_succ]
     refine q_nev x y true rfl rfl rfl HD.out ?_
     simp only [Act.put, List.setIfInBounds_toArray, List.set_cons_zero, List.set_cons_succ]
     refine wpQuiet_nil ?_
     intro w9 b9
     go_wp2_with (fail)
     go_ret
     exact ⟨by rw [HNE.out]; rfl, b9⟩
    | false =>
     have HD := Lib.hid hd
     have HE : Hid (la.take (k + 1) = lb.take (k + 1)) := Lib.hid (HQ2.out.2 (by simpa using hd))
     clear hd
     go_wp2_with (fail)
     try simp only [Act.put]
     refine wp_region_class (fun w' => Below w.heap.size w w') (by kernel_rfl) (by kernel_rfl) B1.out.drew ?_
     iterate 3 (go_big_quiet_step ((intros; rfl)))
     refine q_load_val 68 _ g1 (o1 + k * 7) x _ rfl rfl rfl (fun w' h => rangeAt_below R1.out.1 R1.out.2 h) Tryz.underlying68 rfl infoV ?_
     simp only [Act.put, List.setIfInBounds_toArray, List.set_cons_zero, List.set_cons_succ]
     iterate 3 (go_big_quiet_step ((intros; rfl)))
     refine q_load_val 68 _ g2 (o2 + k * 7) y _ rfl rfl rfl (fun w' h => rangeAt_below R2.out.1 R2.out.2 h) Tryz.underlying68 rfl infoV ?_
     simp only [Act.put, List.setIfInBounds_toArray, List.set_cons_zero, List.set_cons_succ]
     refine q_nev x y false rfl rfl rfl HD.out ?_
     simp only [Act.put, List.setIfInBounds_toArray, List.set_cons_zero, List.set_cons_succ]
     refine wpQuiet_nil ?_
     intro w9 b9
     have B9 := Lib.hid b9
     clear b9
     go_wp2_with (fail)
     go_roundw
     case rel => exact ⟨k + 1, by omega, by go_num, HE, B9⟩
     case measure => simp [intOf]; omega
   ·obtain rfl : k = n1 := by omega
    have HE : Hid (decide (la = lb) = true) := Lib.hid (decide_eq_true (by
     have h := HQ.out
     rwa [List.take_of_length_le (by rw [E1.out]; exact Nat.le_refl _), List.take_of_length_le (by rw [E2.out]; exact Nat.le_refl _)] at h))
    clear hlt
    have hlt : ¬ k < k := by omega
    go_wp2
    go_ret
    exact ⟨by rw [HE.out]; rfl, B1.out⟩
 ·have HE : Hid (decide (la = lb) = false) := Lib.hid (decide_eq_false (by rintro rfl; omega))
  have hb : ((n1 : Int) == n2) = false := by simp; omega
  clear hn e1 e2 h1 h2
  go_enter Tryz.func27, Tryz.ntmps27
  go_wp2
  go_ret
  exact ⟨by rw [HE.out]; rfl, Below.refl _ _⟩
end
section
open Go Go.RowKit Go.Deep
set_option maxRecDepth 100000
section
variable {N M : Nat} {w0 : Org} {w w' w1 : World} {c cf : Nat → Int} {a : Pl} {q : Ql} {X Z Z' : Nat → World → (Nat → Prop) → Prop} {s s' : Sg} {L L' : List Ent} {k : Nat} {al : Option Addr} {l : List Oq}
theorem Eg.kept0 (h : Eg N w0 w c a q Z s L) : Kept w0.T w0.w w := by
 obtain ⟨X, _, _, _, Φ, _, _, hk⟩ := h
 exact hk
end
end
section
open Go Go.RowKit Go.Deep
set_option maxRecDepth 100000
theorem std0 {c : Nat → Int} (f : Fits c) (h : chk c = 0) (h0 : c 0 ≤ 100) : Std c 0 sg0 [] := by
 have hc := ge_of_chk f h
 have h8 := f 8 (by omega)
 have h8' : c 8 ≤ 18446744073709551615 := by
  simp [Lit.wf, kindOf, go_sem] at h8
  exact h8.2
 exact ⟨hc, h8', h0, inv0 hc, ring0, fun p hp => by simp [sg0] at hp⟩
section
variable {N : Nat} {w0 : Org} {w w' w1 : World} {c : Nat → Int} {a : Pl} {q : Ql} {Z Z' : Nat → World → (Nat → Prop) → Prop} {s s' : Sg} {L L' : List Ent} {k : Nat}
theorem Eg.down (h : Eg N ⟨fun _ => False, w1⟩ w c a q Z s L) : Below w1.heap.size w1 w := by
 have k := h.kept0
 exact ⟨k.os, k.tape, k.output, k.size, fun i hi => k.block i hi (fun h => h)⟩
structure Few (s : Sg) (L : List Ent) : Prop where
 v : s.V.length ≤ 100
 p : s.pd.length ≤ 4096
 f : s.F.length ≤ 4096
 w : s.W.length ≤ 4096
 m : s.mg.length ≤ 4096
 t : s.pt.length ≤ 4096
 l : L.length ≤ 100
theorem Std.few (h : Std c k s L) : Few s L := by
 have q1 := h.ge.q1
 have i := h.inv
 have := h.hund
 have := i.len
 have := i.pdl
 have := i.fl
 have := i.wl
 have := i.mgl
 have := i.ptl
 refine ⟨by omega, by omega, by omega, by omega, by omega, by omega, ?_⟩
 rw [h.ring.len]
 have : unbN s.V ≤ s.V.length := List.countP_le_length
 omega
theorem Std.snap (h : Std c k s L) (hk : k ≤ 1000000) (he : Eg N w0 w c a q Z s L) : Calls Tryz.prog 20 #[.pointer (some ⟨q.e, 0, none⟩)] w fun e w' => ∃ x1 x2 x3 x4 x5 x6 : Sv, e = .returned (.agg (cellsSn s (activeOf s.V) L.length x1.v x2.v x3.v x4.v x5.v x6.v)) ∧
      Eg (N + 6) w0 w' c a q (snX Z N s x1.v x2.v x3.v x4.v x5.v x6.v) s L := by
  have f := h.few
  exact esnap he (h.inv.tm h.ge hk) (by have := f.l; omega) f.p f.m f.t
end
end
section
open Go Go.RowKit Go.Deep
set_option maxRecDepth 100000
theorem au_cfg {c : Nat → Int} (hf : Fits c) (h : chk c = 0) : (0 ≤ c 10 ∧ c 10 ≤ 1048576) ∧ (1 ≤ c 13 ∧ c 13 ≤ 4096) ∧ c 4 ≤ 1152921504606846976 := by
 rcases chk_cases c with ⟨_, hb⟩ | ⟨k, _, _, _, e⟩
 ·have h4 := btw_spec (hb 4 (by omega))
  have h10 := btw_spec (hb 10 (by omega))
  have h13 := btw_spec (hb 13 (by omega))
  unfold most at h4
  exact ⟨⟨by omega, h10.2⟩, h13, h4.2⟩
 ·omega
theorem sv_own {w : World} {k n : Nat} {e : TypeId} {x : Sv} {xs : List Value} (h : w.ownsRow 0 e k x.v n xs) : x.n = n ∧ n ≤ x.c ∧ x.c ≤ maxLen := by
 obtain ⟨a, n', c⟩ := x
 rcases h.2 with ⟨h1, h2⟩ | ⟨g, cp, cur, h1, _, _, h4, h5, _⟩
 ·injection h1 with _ h3 h4
  subst h3 h4 h2
  exact ⟨rfl, Nat.le_refl _, Nat.zero_le _⟩
 ·injection h1 with _ h3 h6
  subst h3 h6
  exact ⟨rfl, h4, h5⟩
theorem sv_ints {w : World} {x : Sv} {L : List Int} (h : w.ownsRow 0 3 1 x.v L.length (L.map (Value.int .i64))) : IntsAt w (fun _ => False) x.a L := by
 obtain ⟨a, cp, e, _, _, _, hi⟩ := ints_of_owns (S := fun _ => False) h fun _ _ h => h
 injection e with e _ _
 rw [e]
 exact hi
def anS (s : Sg) (L : List Ent) : An := ⟨s.bk, s.ep, s.V, s.D, s.P, s.B, activeOf s.V, s.pd, s.F, s.W, s.mg.length, s.pt.length, (L.length : Int)⟩
theorem snap_au {w : World} {c : Nat → Int} {k : Nat} {s : Sg} {L : List Ent} {x1 x2 x3 x4 x5 x6 : Sv} (h : Std c k s L) (hk : k ≤ 1000000) (hf : Fits c) (hc : chk c = 0) (hwd : ∀ v ∈ s.V, -4611686018427387904 ≤ v.wd)
  (a1 : w.ownsRow 0 68 7 x1.v s.V.length (flat s.V)) (a2 : w.ownsRow 0 3 1 x2.v s.pd.length (s.pd.map (Value.int .i64))) (a3 : w.ownsRow 0 3 1 x3.v s.F.length (s.F.map (Value.int .i64))) (a4 : w.ownsRow 0 3 1 x4.v s.W.length (s.W.map (Value.int .i64)))
  (a5 : w.ownsRow 0 116 2 x5.v s.mg.length (flat2 s.mg)) (a6 : w.ownsRow 0 119 2 x6.v s.pt.length (flatQ s.pt)) :
  ∃ x : Sx, cellsSn s (activeOf s.V) L.length x1.v x2.v x3.v x4.v x5.v x6.v = cellsSx x ∧ AuAt w x c s.V s.pd s.F s.W ∧ anOf x s.V s.pd s.F s.W = anS s L := by
 have f := h.few
 have i := h.inv
 obtain ⟨c10, c13, c4⟩ := au_cfg hf hc
 obtain ⟨n1, b1, m1⟩ := sv_own a1
 obtain ⟨n2, b2, m2⟩ := sv_own a2
 obtain ⟨n3, b3, m3⟩ := sv_own a3
 obtain ⟨n4, b4, m4⟩ := sv_own a4
 obtain ⟨n5, b5, m5⟩ := sv_own a5
 obtain ⟨n6, b6, m6⟩ := sv_own a6
 have hfit : ∀ v ∈ s.V, FitsV v := fun v hv => (i.vok v hv).fit
 obtain ⟨t0, t1⟩ := active_le hfit
 have tt := i.total h.ge
 have wfi : ∀ {p : Val → Prop} {j : Int}, Has s.V p j → (Lit.int .i64 j).wf = true := fun {p j} hj => by
  have := hj.lt
  have := f.v
  exact wf_i64e (by omega) (by omega)
 have g1 := i.sum
 have g2 := i.p0
 have g3 := i.b0
 have g4 := i.d1
 have g5 := i.bk0
 have g6 := i.bk1
 have g7 := i.ep0
 have g8 := i.ep1
 have g9 := f.l
 have fv := f.v
 have fp := f.p
 have ff := f.f
 have fw := f.w
 have lV : LstR Val.row 7 w (fun _ => False) x1.a s.V := by
  obtain ⟨a', cp', e, _, _, hl⟩ := ownsR_lst (S := fun _ => False) (row := Val.row) (l := s.V) (fun _ => rfl) a1 rfl fun _ _ h => h
  injection e with e _ _
  rw [e]
  exact hl
 refine ⟨⟨s.bk, s.ep, x1.a, x1.n, x1.c, s.D, s.P, s.B, activeOf s.V, x2.a, x2.n, x2.c, x3.a, x3.n, x3.c, x4.a, x4.n, x4.c, x5.a, x5.n, x5.c, x6.a, x6.n, x6.c, s.cu, s.cy, L.length⟩, rfl, ⟨⟨⟨⟨?_, ?_⟩, ⟨?_, ?_⟩, ⟨?_, ?_⟩, ⟨?_, ?_⟩, ⟨?_, ?_⟩, ⟨?_, ?_⟩, ⟨?_, ?_⟩, ?_, ?_⟩, lV, n1.symm, ⟨?_, m1⟩, hfit, sv_ints a2, n2.symm, ⟨?_, m2⟩, ?_, sv_ints a3, n3.symm, ⟨?_, m3⟩, ?_, sv_ints a4, n4.symm, ⟨?_, m4⟩, ?_⟩, ?_, ?_, ?_, ?_, ?_, c10, c13, c4⟩, ?_⟩
 all_goals first
  | omega
  | (simp only; omega)
  | exact fun y hy => wfi (i.pdx y hy)
  | exact fun y hy => wfi (i.lnx y (List.mem_append.2 (.inl hy)))
  | exact fun y hy => wfi (i.lnx y (List.mem_append.2 (.inr hy)))
  | exact fun v hv => ⟨hwd v hv, by have := (i.vok v hv).w; omega⟩
  | (unfold anOf anS; simp only [n5, n6])
theorem snap_rows {N : Nat} {w0 : Org} {w : World} {c : Nat → Int} {a : Pl} {q : Ql} {Z : Nat → World → (Nat → Prop) → Prop} {s : Sg} {L : List Ent} {x1 x2 x3 x4 x5 x6 : Sv} (hN : 11 ≤ N) (he : Eg (N + 6) w0 w c a q (snX Z N s x1.v x2.v x3.v x4.v x5.v x6.v) s L) :
  w.ownsRow 0 68 7 x1.v s.V.length (flat s.V) ∧ w.ownsRow 0 3 1 x2.v s.pd.length (s.pd.map (Value.int .i64)) ∧ w.ownsRow 0 3 1 x3.v s.F.length (s.F.map (Value.int .i64)) ∧ w.ownsRow 0 3 1 x4.v s.W.length (s.W.map (Value.int .i64)) ∧ w.ownsRow 0 116 2 x5.v s.mg.length (flat2 s.mg) ∧ w.ownsRow 0 119 2 x6.v s.pt.length (flatQ s.pt) := by
 unfold snX at he
 refine ⟨he.row (r := N) hN (by omega) ?_, he.row (r := N + 1) (by omega) (by omega) ?_, he.row (r := N + 2) (by omega) (by omega) ?_, he.row (r := N + 3) (by omega) (by omega) ?_, he.row (r := N + 4) (by omega) (by omega) ?_, he.row (r := N + 5) (by omega) (by omega) ?_⟩
 ·rw [xput_ne (by omega), xput_ne (by omega), xput_ne (by omega), xput_ne (by omega), xput_ne (by omega), xput_same]; rfl
 ·rw [xput_ne (by omega), xput_ne (by omega), xput_ne (by omega), xput_ne (by omega), xput_same]; rfl
 ·rw [xput_ne (by omega), xput_ne (by omega), xput_ne (by omega), xput_same]; rfl
 ·rw [xput_ne (by omega), xput_ne (by omega), xput_same]; rfl
 ·rw [xput_ne (by omega), xput_same]; rfl
 ·rw [xput_same]; rfl
end
section
open Go Go.RowKit Go.Deep
set_option maxRecDepth 100000
theorem dflt_geA : GE dflt := ge_of_chk dflt_fits dflt_chk
theorem first_new : firstV dflt (anS sg0 []) = 0 := by kernel_rfl
def anT : An := { anS sg0 [] with D := 1 }
theorem first_one : firstV dflt anT = 2 := by kernel_rfl
theorem viol_one : violK dflt anT 12 = [2] := by kernel_rfl
theorem ints_two (w : World) : IntsAt (w.alloc (.cells #[.int .i64 2] 3)) (fun _ => False) (some ⟨w.heap.size, 0, none⟩) [2] := IntsAt.of_blk (t := 3) (Blk.new w _ _) fun h => h
set_option maxHeartbeats 12800000 in
theorem alive24 (w : World) : CallB 12 #[] w (.bool true) := by
 have HS0 := Lib.hid (std0 dflt_fits dflt_chk (by decide))
 have HG := Lib.hid dflt_geA
 go_enter Tryz.func12, Tryz.ntmps12
 go_wp2_with fail
 refine (default_any w).mono ?_
 rintro e w1 ⟨rfl, hb1⟩
 have B1 := Lib.hid hb1
 clear hb1
 go_wp2_with fail
 refine (enew w1 HG.out dflt_chk).mono ?_
 rintro e w2 ⟨a, q, rfl, h2⟩
 have E2 := Lib.hid (h2 noP)
 clear h2
 obtain ⟨s0, hs0⟩ := named (sg0)
 obtain ⟨L0, hL0⟩ := named (([] : List Ent))
 have HSL := Lib.hid (And.intro hs0 hL0)
 rw [hs0, hL0] at HS0 E2
 clear hs0 hL0
 go_wp2_with fail
 refine (HS0.out.snap (by omega) E2.out).mono ?_
 rintro e w4 ⟨x1, x2, x3, x4, x5, x6, rfl, h4⟩
 have B4 : Hid (Below w.heap.size w w4) := Lib.hid (B1.out.trans (h4.down.mono B1.out.size))
 obtain ⟨r1, r2, r3, r4, r5, r6⟩ := snap_rows (by omega) h4
 obtain ⟨xs, ex, hau, han⟩ := snap_au HS0.out (by omega) dflt_fits dflt_chk (fun v hv => by rw [← HSL.out.1] at hv; simp [sg0] at hv) r1 r2 r3 r4 r5 r6
 rw [← HSL.out.1, ← HSL.out.2] at han
 rw [← HSL.out.1] at hau
 have HA : Hid (AuAt w4 xs dflt [] [] [] []) := Lib.hid hau
 have HAN : Hid (anOf xs [] [] [] [] = anS sg0 []) := Lib.hid han
 rw [ex]
 clear r1 r2 r3 r4 r5 r6 ex hau han h4 E2 HS0 HSL B1 HG
 have N1 : Hid (Blk (w4.alloc (.cells (cellsSx xs) 28)) w4.heap.size 28 (cellsSx xs)) := Lib.hid (Blk.new w4 _ _)
 have C5 : Hid (Below w4.heap.size w4 (w4.alloc (.cells (cellsSx xs) 28))) := Lib.hid ((Below.refl _ _).alloc (Nat.le_refl _) _)
 go_upto_region 5 with (first | (refine wsr w4.heap.size (cellsSx xs) 28 (heap_alloc_new w4 _) infoSx (cellsSx_one xs) ?_; rw [World.setRow_alloc_new]))
 try simp only [Act.put]
 have hsz : (w4.alloc (.cells (cellsSx xs) 28)).heap.size = w4.heap.size + 1 := by simp
 have HSZ := Lib.hid hsz
 clear hsz
 generalize w4.alloc (.cells (cellsSx xs) 28) = w5 at *
 generalize hsb : w4.heap.size = sb at *
 have N2 : Hid (Blk (w5.alloc (.cells (cellsSx xs) 28)) w5.heap.size 28 (cellsSx xs)) := Lib.hid (Blk.new w5 _ _)
 have N3 := Lib.hid (N1.out.alloc (.cells (cellsSx xs) 28))
 have C6 : Hid (Below sb w4 (w5.alloc (.cells (cellsSx xs) 28))) := Lib.hid (C5.out.alloc (by rw [HSZ.out]; omega) _)
 go_upto_region 6 with (first | (refine wlr 28 sb N1.out Tryz.underlying28 infoSx ?_) | (refine wsr w5.heap.size (cellsSx xs) 28 (heap_alloc_new w5 _) infoSx (cellsSx_one xs) ?_; rw [World.setRow_alloc_new]))
 try simp only [Act.put]
 generalize w5.alloc (.cells (cellsSx xs) 28) = w6 at *
 generalize htb : w5.heap.size = tb at *
 have hne : sb ≠ tb := by have := HSZ.out; omega
 have hle : sb ≤ tb := by have := HSZ.out; omega
 have c3 := cel N2.out 3
 have f3 := N2.out.frozen 3
 obtain ⟨xt, hxt⟩ : ∃ xt : Sx, { xs with D := 1 } = xt := ⟨_, rfl⟩
 have N4 : Hid (Blk (w6.setCell ⟨tb, 3, none⟩ (.int .u64 1)) tb 28 (cellsSx xt)) := Lib.hid (by rw [← hxt]; exact N2.out.set_ 3 _)
 have N5 : Hid (Blk (w6.setCell ⟨tb, 3, none⟩ (.int .u64 1)) sb 28 (cellsSx xs)) := Lib.hid (N3.out.far hne _)
 have C7 : Hid (Below sb w4 (w6.setCell ⟨tb, 3, none⟩ (.int .u64 1))) := Lib.hid (C6.out.setCell hle _)
 have HAX : Hid (AuAt (w6.setCell ⟨tb, 3, none⟩ (.int .u64 1)) xs dflt [] [] [] []) := Lib.hid (HA.out.below (by rw [hsb]; exact C7.out))
 have HAT : Hid (AuAt (w6.setCell ⟨tb, 3, none⟩ (.int .u64 1)) xt dflt [] [] [] [] ∧ anOf xt [] [] [] [] = anT) := Lib.hid (by
  refine ⟨?_, ?_⟩
  ·have h := HAX.out
   rw [← hxt]
   exact { h with sx := { h.sx with nums := { h.sx.nums with D := ⟨by show (0 : Int) ≤ 1; omega, by show (1 : Int) ≤ 18446744073709551615; omega⟩ } } }
  ·rw [← hxt]
   show { anOf xs [] [] [] [] with D := 1 } = anT
   rw [HAN.out]
   rfl)
 have BX : Hid (Below w.heap.size w (w6.setCell ⟨tb, 3, none⟩ (.int .u64 1))) := Lib.hid (B4.out.trans (C7.out.mono (by rw [← hsb]; exact B4.out.size)))
 clear hne hle hxt C5 C6 N1 N2 N3 HSZ
 go_upto_region 7 with (fail)
 try simp only [Act.put]
 generalize w6.setCell ⟨tb, 3, none⟩ (.int .u64 1) = X0 at *
 clear c3 f3 C7 HA
 have hX : Below X0.heap.size X0 X0.drew := (Below.refl _ _).drew
 have M1 : Hid (Blk X0.drew sb 28 (cellsSx xs)) := Lib.hid N5.out.drew
 have M2 : Hid (Blk X0.drew tb 28 (cellsSx xt)) := Lib.hid N4.out.drew
 have MA := Lib.hid (HAX.out.below hX)
 have MT := Lib.hid (HAT.out.1.below hX)
 have BD : Hid (Below w.heap.size w X0.drew) := Lib.hid BX.out.drew
 obtain ⟨X, hXX⟩ := named (X0.drew)
 rw [hXX] at M1 M2 MA MT BD
 have HC0 : Hid (∀ W', Below X.heap.size X W' → CallB 16 #[.agg (cellsSx xs), .agg (cellsOf dflt)] W' (.int .i64 0)) := Lib.hid fun W' hb => by
  have := Check_any W' (MA.out.below hb)
  rw [HAN.out, first_new] at this
  exact this
 have HC1 : Hid (∀ W', Below X.heap.size X W' → CallB 16 #[.agg (cellsSx xt), .agg (cellsOf dflt)] W' (.int .i64 2)) := Lib.hid fun W' hb => by
  have := Check_any W' (MT.out.below hb)
  rw [HAT.out.2, first_one] at this
  exact this
 have HC2 : Hid (∀ W', Below X.heap.size X W' → Calls Tryz.prog 13 #[.agg (cellsSx xt), .agg (cellsOf dflt)] W' fun e w' => ∃ v, e = .returned v ∧ OwnI w' W'.heap.size v [2] ∧ Below W'.heap.size W' w') := Lib.hid fun W' hb => by
  have := All_any W' (MT.out.below hb)
  rw [HAT.out.2, viol_one] at this
  exact this
 have HNM : Hid (∀ W', CallB 23 #[.int .i64 2] W' (.string ⟨#[115, 117, 109]⟩)) := Lib.hid fun W' => Name_any 2 W' (by decide)
 clear HAX HAT N4 N5 BX hX MA MT HAN
 refine wrF (fun w' => Below X.heap.size X w') 25 24 [0] (?_) ?_
 ·rw [hXX]; exact Below.refl _ _
 rw [hXX]
 clear hXX
 simp only [List.filterMap_cons, List.filterMap_nil, List.getElem?_toArray, List.getElem?_cons_zero, List.getElem?_cons_succ]
 show wpQuiet _ _ _ _ [_] _
 refine q_load 28 _ sb 28 (cellsSx xs) _ rfl rfl rfl (fun w' h => M1.out.below h M1.out.lt) Tryz.underlying28 rfl infoSx ?_
 simp only [Act.put, List.setIfInBounds_toArray, List.set_cons_zero, List.set_cons_succ]
 refine wpQuiet_nil ?_
 try simp only [Act.put, List.getElem_toArray, List.getElem_cons_zero, List.getElem_cons_succ, List.setIfInBounds_toArray, List.set_cons_zero, List.set_cons_succ, List.drop_succ_cons, List.drop_zero]
 refine hfO (i := 1) ?_
 refine wcA #[] Tryz.call29 ((default_any X).mono ?_)
 rintro e y1 ⟨rfl, hb⟩
 have By1 : Hid (Below X.heap.size X y1) := Lib.hid (hb)
 clear hb
 refine ⟨_, rfl, By1.out, ?_⟩
 try simp only [Act.put, List.getElem_toArray, List.getElem_cons_zero, List.getElem_cons_succ, List.setIfInBounds_toArray, List.set_cons_zero, List.set_cons_succ, List.drop_succ_cons, List.drop_zero]
 refine hfO (i := 2) ?_
 refine wcA #[.agg (cellsSx xs), .agg (cellsOf dflt)] Tryz.call16 ((HC0.out y1 By1.out).mono ?_)
 rintro e y2 ⟨rfl, hb⟩
 have By2 : Hid (Below X.heap.size X y2) := Lib.hid (By1.out.trans (hb.mono By1.out.size))
 clear hb
 refine ⟨_, rfl, By2.out, ?_⟩
 try simp only [Act.put, List.getElem_toArray, List.getElem_cons_zero, List.getElem_cons_succ, List.setIfInBounds_toArray, List.set_cons_zero, List.set_cons_succ, List.drop_succ_cons, List.drop_zero]
 refine hfT (fun w' => Below X.heap.size X w') (m := 22) (f := 19) [3, 4, 5] (?_) ?_
 ·exact By2.out
 simp only [List.filterMap_cons, List.filterMap_nil, List.getElem?_toArray, List.getElem?_cons_zero, List.getElem?_cons_succ]
 show wpQuiet _ _ _ _ [_, _, _] _
 iterate 2 (go_big_quiet_step ((intros; rfl)))
 refine q_load 28 _ tb 28 (cellsSx xt) _ rfl rfl rfl (fun w' h => M2.out.below h M2.out.lt) Tryz.underlying28 rfl infoSx ?_
 simp only [Act.put, List.setIfInBounds_toArray, List.set_cons_zero, List.set_cons_succ]
 refine wpQuiet_nil ?_
 try simp only [Act.put, List.getElem_toArray, List.getElem_cons_zero, List.getElem_cons_succ, List.setIfInBounds_toArray, List.set_cons_zero, List.set_cons_succ, List.drop_succ_cons, List.drop_zero]
 refine hfO (i := 6) ?_
 refine wpOp_atG rfl (by kernel_rfl) (wp_call_at rfl #[] (by kernel_rfl) Tryz.call29 ((default_any y2).mono ?_))
 rintro e y3 ⟨rfl, hb⟩
 have By3 : Hid (Below X.heap.size X y3) := Lib.hid (By2.out.trans (hb.mono By2.out.size))
 clear hb
 refine ⟨_, rfl, By3.out, ?_⟩
 try simp only [Act.put, List.getElem_toArray, List.getElem_cons_zero, List.getElem_cons_succ, List.setIfInBounds_toArray, List.set_cons_zero, List.set_cons_succ, List.drop_succ_cons, List.drop_zero]
 refine hfO (i := 7) ?_
 refine wpOp_atG rfl (by kernel_rfl) (wp_call_at rfl #[.agg (cellsSx xt), .agg (cellsOf dflt)] (by kernel_rfl) Tryz.call16 ((HC1.out y3 By3.out).mono ?_))
 rintro e y4 ⟨rfl, hb⟩
 have By4 : Hid (Below X.heap.size X y4) := Lib.hid (By3.out.trans (hb.mono By3.out.size))
 clear hb
 refine ⟨_, rfl, By4.out, ?_⟩
 try simp only [Act.put, List.getElem_toArray, List.getElem_cons_zero, List.getElem_cons_succ, List.setIfInBounds_toArray, List.set_cons_zero, List.set_cons_succ, List.drop_succ_cons, List.drop_zero]
 refine hfT (fun w' => Below X.heap.size X w') (m := 17) (f := 13) [8, 9, 10, 11] (?_) ?_
 ·exact By4.out
 simp only [List.filterMap_cons, List.filterMap_nil, List.getElem?_toArray, List.getElem?_cons_zero, List.getElem?_cons_succ]
 show wpQuiet _ _ _ _ [_, _, _, _] _
 iterate 3 (go_big_quiet_step ((intros; rfl)))
 refine q_load 28 _ tb 28 (cellsSx xt) _ rfl rfl rfl (fun w' h => M2.out.below h M2.out.lt) Tryz.underlying28 rfl infoSx ?_
 simp only [Act.put, List.setIfInBounds_toArray, List.set_cons_zero, List.set_cons_succ]
 refine wpQuiet_nil ?_
 obtain ⟨i8, hi8, hz8, hs8, hb8⟩ := int_app
 try simp only [Act.put, List.getElem_toArray, List.getElem_cons_zero, List.getElem_cons_succ, List.setIfInBounds_toArray, List.set_cons_zero, List.set_cons_succ, List.drop_succ_cons, List.drop_zero]
 refine headF_two (i := 12) (k := 14) (by kernel_rfl) (by simp) (by simp) ?_ ?_
 ·skip
  refine wpOp_atG rfl (by kernel_rfl) (wp_call_at rfl #[] (by kernel_rfl) Tryz.call29 ((default_any y4).mono ?_))
  rintro e y5 ⟨rfl, hb⟩
  have By5 : Hid (Below X.heap.size X y5) := Lib.hid (By4.out.trans (hb.mono By4.out.size))
  clear hb
  refine ⟨_, rfl, By5.out, ?_⟩
  try simp only [Act.put, List.getElem_toArray, List.getElem_cons_zero, List.getElem_cons_succ, List.setIfInBounds_toArray, List.set_cons_zero, List.set_cons_succ, List.drop_succ_cons, List.drop_zero]
  refine headF_two (i := 13) (k := 14) (by kernel_rfl) (by simp) (by simp) ?_ ?_
  ·skip
   refine wpOp_atG rfl (by kernel_rfl) (wp_call_at rfl #[.agg (cellsSx xt), .agg (cellsOf dflt)] (by kernel_rfl) Tryz.call13 ((HC2.out y5 By5.out).mono ?_))
   rintro e y6 ⟨v, rfl, ho, hb⟩
   obtain ⟨pa, ca, rfl, _, _, _, hi⟩ := ints_of_owns (S := fun _ => False) ho fun _ _ h => h
   have OA := Lib.hid hi
   have By6 : Hid (Below X.heap.size X y6) := Lib.hid (By5.out.trans (hb.mono By5.out.size))
   clear ho hb hi
   refine ⟨_, rfl, By6.out, ?_⟩
   try simp only [Act.put, List.getElem_toArray, List.getElem_cons_zero, List.getElem_cons_succ, List.setIfInBounds_toArray, List.set_cons_zero, List.set_cons_succ, List.drop_succ_cons, List.drop_zero]
   refine hfO (i := 14) ?_
   have By7 : Hid (Below X.heap.size X (y6.alloc (.cells #[.int .i64 2] 3))) := Lib.hid (By6.out.alloc By6.out.size _)
   have OB := Lib.hid (ints_two y6)
   have OA := Lib.hid (OA.out.below ((Below.refl _ y6).alloc (Nat.le_refl _) (.cells #[.int .i64 2] 3)))
   refine wpOp_atG rfl (by kernel_rfl) (wp_buildSlice_one 24 3 i8 _ _ (.int .i64 2) rfl rfl Tryz.underlying24 hi8 hz8 hs8 rfl rfl ⟨By7.out, ?_⟩)
   generalize y6.alloc (.cells #[.int .i64 2] 3) = y7 at *
   generalize y6.heap.size = g2 at *
   try simp only [Act.put, List.getElem_toArray, List.getElem_cons_zero, List.getElem_cons_succ, List.setIfInBounds_toArray, List.set_cons_zero, List.set_cons_succ, List.drop_succ_cons, List.drop_zero]
   refine hfO (i := 15) ?_
   refine wpOp_atG rfl (by kernel_rfl) (wp_call_at rfl #[.slice pa 1 ca, .slice (some ⟨g2, 0, none⟩) 1 1] (by kernel_rfl) Tryz.call14 ((equal_same (L := [2]) (n := 1) OA.out OB.out rfl (by omega)).mono ?_))
   rintro e z0 ⟨rfl, m, rfl⟩
   have Bz : Hid (Below X.heap.size X (y7.drewN m)) := Lib.hid (below_drewN By7.out m)
   refine ⟨_, rfl, Bz.out, ?_⟩
   clear OA OB
   generalize y7.drewN m = z at *
   try simp only [Act.put, List.getElem_toArray, List.getElem_cons_zero, List.getElem_cons_succ, List.setIfInBounds_toArray, List.set_cons_zero, List.set_cons_succ, List.drop_succ_cons, List.drop_zero]
   refine hfT (fun w' => Below X.heap.size X w') (m := 9) (f := 7) [16, 17] (?_) ?_
   ·exact Bz.out
   simp only [List.filterMap_cons, List.filterMap_nil, List.getElem?_toArray, List.getElem?_cons_zero, List.getElem?_cons_succ]
   show wpQuiet _ _ _ _ [_, _] _
   iterate 2 (go_big_quiet_step ((intros; rfl)))
   refine wpQuiet_nil ?_
   try simp only [Act.put, List.getElem_toArray, List.getElem_cons_zero, List.getElem_cons_succ, List.setIfInBounds_toArray, List.set_cons_zero, List.set_cons_succ, List.drop_succ_cons, List.drop_zero]
   refine hfO (i := 18) ?_
   refine wpOp_atG rfl (by kernel_rfl) (wp_call_at rfl #[] (by kernel_rfl) Tryz.call24 ((Rules_any z).mono ?_))
   rintro e z1 ⟨rfl, hb⟩
   have Bz1 : Hid (Below X.heap.size X z1) := Lib.hid (Bz.out.trans (hb.mono Bz.out.size))
   clear hb
   refine ⟨_, rfl, Bz1.out, ?_⟩
   try simp only [Act.put, List.getElem_toArray, List.getElem_cons_zero, List.getElem_cons_succ, List.setIfInBounds_toArray, List.set_cons_zero, List.set_cons_succ, List.drop_succ_cons, List.drop_zero]
   refine hfT (fun w' => Below X.heap.size X w') (m := 6) (f := 3) [19, 20, 21] (?_) ?_
   ·exact Bz1.out
   simp only [List.filterMap_cons, List.filterMap_nil, List.getElem?_toArray, List.getElem?_cons_zero, List.getElem?_cons_succ]
   show wpQuiet _ _ _ _ [_, _, _] _
   iterate 3 (go_big_quiet_step ((intros; rfl)))
   refine wpQuiet_nil ?_
   try simp only [Act.put, List.getElem_toArray, List.getElem_cons_zero, List.getElem_cons_succ, List.setIfInBounds_toArray, List.set_cons_zero, List.set_cons_succ, List.drop_succ_cons, List.drop_zero]
   refine hfO (i := 22) ?_
   refine wpOp_atG rfl (by kernel_rfl) (wp_call_at rfl #[.int .i64 2] (by kernel_rfl) Tryz.call23 ((HNM.out z1).mono ?_))
   rintro e z2 ⟨rfl, hb⟩
   have Bz2 : Hid (Below X.heap.size X z2) := Lib.hid (Bz1.out.trans (hb.mono Bz1.out.size))
   clear hb
   refine ⟨_, rfl, Bz2.out, ?_⟩
   try simp only [Act.put, List.getElem_toArray, List.getElem_cons_zero, List.getElem_cons_succ, List.setIfInBounds_toArray, List.set_cons_zero, List.set_cons_succ, List.drop_succ_cons, List.drop_zero]
   refine hfT (fun w' => Below X.heap.size X w') (m := 2) (f := 0) [23, 24] (?_) ?_
   ·exact Bz2.out
   simp only [List.filterMap_cons, List.filterMap_nil, List.getElem?_toArray, List.getElem?_cons_zero, List.getElem?_cons_succ]
   show wpQuiet _ _ _ _ [_, _] _
   iterate 2 (go_big_quiet_step ((intros; rfl)))
   refine wpQuiet_nil ?_
   show Region.seqB _ _ _ _ _ = true ∧ _
   refine ⟨by kernel_rfl, ?_⟩
   simp only [Act.put, List.getElem_toArray, List.getElem_cons_zero, List.getElem_cons_succ, List.setIfInBounds_toArray, List.set_cons_zero, List.set_cons_succ, List.drop_succ_cons, List.drop_zero]
   go_wp2
   refine NoPanic.normal ?_
   go_wp2_with fail
   go_ret
   exact ⟨rfl, BD.out.trans (Bz2.out.mono BD.out.size)⟩
  ·skip
   have By6 : Hid (Below X.heap.size X (y5.alloc (.cells #[.int .i64 2] 3))) := Lib.hid (By5.out.alloc By5.out.size _)
   have OB0 := Lib.hid (ints_two y5)
   refine wpOp_atG rfl (by kernel_rfl) (wp_buildSlice_one 24 3 i8 _ _ (.int .i64 2) rfl rfl Tryz.underlying24 hi8 hz8 hs8 rfl rfl ⟨By6.out, ?_⟩)
   generalize y5.alloc (.cells #[.int .i64 2] 3) = y6 at *
   generalize y5.heap.size = g2 at *
   try simp only [Act.put, List.getElem_toArray, List.getElem_cons_zero, List.getElem_cons_succ, List.setIfInBounds_toArray, List.set_cons_zero, List.set_cons_succ, List.drop_succ_cons, List.drop_zero]
   refine hfO (i := 13) ?_
   refine wpOp_atG rfl (by kernel_rfl) (wp_call_at rfl #[.agg (cellsSx xt), .agg (cellsOf dflt)] (by kernel_rfl) Tryz.call13 ((HC2.out y6 By6.out).mono ?_))
   rintro e y7 ⟨v, rfl, ho, hb⟩
   obtain ⟨pa, ca, rfl, _, _, _, hi⟩ := ints_of_owns (S := fun _ => False) ho fun _ _ h => h
   have OA := Lib.hid hi
   have OB := Lib.hid (OB0.out.below hb)
   clear OB0
   have By7 : Hid (Below X.heap.size X y7) := Lib.hid (By6.out.trans (hb.mono By6.out.size))
   clear ho hb hi
   refine ⟨_, rfl, By7.out, ?_⟩
   try simp only [Act.put, List.getElem_toArray, List.getElem_cons_zero, List.getElem_cons_succ, List.setIfInBounds_toArray, List.set_cons_zero, List.set_cons_succ, List.drop_succ_cons, List.drop_zero]
   refine hfO (i := 15) ?_
   refine wpOp_atG rfl (by kernel_rfl) (wp_call_at rfl #[.slice pa 1 ca, .slice (some ⟨g2, 0, none⟩) 1 1] (by kernel_rfl) Tryz.call14 ((equal_same (L := [2]) (n := 1) OA.out OB.out rfl (by omega)).mono ?_))
   rintro e z0 ⟨rfl, m, rfl⟩
   have Bz : Hid (Below X.heap.size X (y7.drewN m)) := Lib.hid (below_drewN By7.out m)
   refine ⟨_, rfl, Bz.out, ?_⟩
   clear OA OB
   generalize y7.drewN m = z at *
   try simp only [Act.put, List.getElem_toArray, List.getElem_cons_zero, List.getElem_cons_succ, List.setIfInBounds_toArray, List.set_cons_zero, List.set_cons_succ, List.drop_succ_cons, List.drop_zero]
   refine hfT (fun w' => Below X.heap.size X w') (m := 9) (f := 7) [16, 17] (?_) ?_
   ·exact Bz.out
   simp only [List.filterMap_cons, List.filterMap_nil, List.getElem?_toArray, List.getElem?_cons_zero, List.getElem?_cons_succ]
   show wpQuiet _ _ _ _ [_, _] _
   iterate 2 (go_big_quiet_step ((intros; rfl)))
   refine wpQuiet_nil ?_
   try simp only [Act.put, List.getElem_toArray, List.getElem_cons_zero, List.getElem_cons_succ, List.setIfInBounds_toArray, List.set_cons_zero, List.set_cons_succ, List.drop_succ_cons, List.drop_zero]
   refine hfO (i := 18) ?_
   refine wpOp_atG rfl (by kernel_rfl) (wp_call_at rfl #[] (by kernel_rfl) Tryz.call24 ((Rules_any z).mono ?_))
   rintro e z1 ⟨rfl, hb⟩
   have Bz1 : Hid (Below X.heap.size X z1) := Lib.hid (Bz.out.trans (hb.mono Bz.out.size))
   clear hb
   refine ⟨_, rfl, Bz1.out, ?_⟩
   try simp only [Act.put, List.getElem_toArray, List.getElem_cons_zero, List.getElem_cons_succ, List.setIfInBounds_toArray, List.set_cons_zero, List.set_cons_succ, List.drop_succ_cons, List.drop_zero]
   refine hfT (fun w' => Below X.heap.size X w') (m := 6) (f := 3) [19, 20, 21] (?_) ?_
   ·exact Bz1.out
   simp only [List.filterMap_cons, List.filterMap_nil, List.getElem?_toArray, List.getElem?_cons_zero, List.getElem?_cons_succ]
   show wpQuiet _ _ _ _ [_, _, _] _
   iterate 3 (go_big_quiet_step ((intros; rfl)))
   refine wpQuiet_nil ?_
   try simp only [Act.put, List.getElem_toArray, List.getElem_cons_zero, List.getElem_cons_succ, List.setIfInBounds_toArray, List.set_cons_zero, List.set_cons_succ, List.drop_succ_cons, List.drop_zero]
   refine hfO (i := 22) ?_
   refine wpOp_atG rfl (by kernel_rfl) (wp_call_at rfl #[.int .i64 2] (by kernel_rfl) Tryz.call23 ((HNM.out z1).mono ?_))
   rintro e z2 ⟨rfl, hb⟩
   have Bz2 : Hid (Below X.heap.size X z2) := Lib.hid (Bz1.out.trans (hb.mono Bz1.out.size))
   clear hb
   refine ⟨_, rfl, Bz2.out, ?_⟩
   try simp only [Act.put, List.getElem_toArray, List.getElem_cons_zero, List.getElem_cons_succ, List.setIfInBounds_toArray, List.set_cons_zero, List.set_cons_succ, List.drop_succ_cons, List.drop_zero]
   refine hfT (fun w' => Below X.heap.size X w') (m := 2) (f := 0) [23, 24] (?_) ?_
   ·exact Bz2.out
   simp only [List.filterMap_cons, List.filterMap_nil, List.getElem?_toArray, List.getElem?_cons_zero, List.getElem?_cons_succ]
   show wpQuiet _ _ _ _ [_, _] _
   iterate 2 (go_big_quiet_step ((intros; rfl)))
   refine wpQuiet_nil ?_
   show Region.seqB _ _ _ _ _ = true ∧ _
   refine ⟨by kernel_rfl, ?_⟩
   simp only [Act.put, List.getElem_toArray, List.getElem_cons_zero, List.getElem_cons_succ, List.setIfInBounds_toArray, List.set_cons_zero, List.set_cons_succ, List.drop_succ_cons, List.drop_zero]
   go_wp2
   refine NoPanic.normal ?_
   go_wp2_with fail
   go_ret
   exact ⟨rfl, BD.out.trans (Bz2.out.mono BD.out.size)⟩
 ·skip
  have By5 : Hid (Below X.heap.size X (y4.alloc (.cells #[.int .i64 2] 3))) := Lib.hid (By4.out.alloc By4.out.size _)
  have OB0 := Lib.hid (ints_two y4)
  refine wpOp_atG rfl (by kernel_rfl) (wp_buildSlice_one 24 3 i8 _ _ (.int .i64 2) rfl rfl Tryz.underlying24 hi8 hz8 hs8 rfl rfl ⟨By5.out, ?_⟩)
  generalize y4.alloc (.cells #[.int .i64 2] 3) = y5 at *
  generalize y4.heap.size = g2 at *
  try simp only [Act.put, List.getElem_toArray, List.getElem_cons_zero, List.getElem_cons_succ, List.setIfInBounds_toArray, List.set_cons_zero, List.set_cons_succ, List.drop_succ_cons, List.drop_zero]
  refine hfO (i := 12) ?_
  refine wpOp_atG rfl (by kernel_rfl) (wp_call_at rfl #[] (by kernel_rfl) Tryz.call29 ((default_any y5).mono ?_))
  rintro e y6 ⟨rfl, hb⟩
  have OB1 := Lib.hid (OB0.out.below hb)
  have By6 : Hid (Below X.heap.size X y6) := Lib.hid (By5.out.trans (hb.mono By5.out.size))
  clear hb OB0
  refine ⟨_, rfl, By6.out, ?_⟩
  have OB0 := OB1
  clear OB1
  try simp only [Act.put, List.getElem_toArray, List.getElem_cons_zero, List.getElem_cons_succ, List.setIfInBounds_toArray, List.set_cons_zero, List.set_cons_succ, List.drop_succ_cons, List.drop_zero]
  refine hfO (i := 13) ?_
  refine wpOp_atG rfl (by kernel_rfl) (wp_call_at rfl #[.agg (cellsSx xt), .agg (cellsOf dflt)] (by kernel_rfl) Tryz.call13 ((HC2.out y6 By6.out).mono ?_))
  rintro e y7 ⟨v, rfl, ho, hb⟩
  obtain ⟨pa, ca, rfl, _, _, _, hi⟩ := ints_of_owns (S := fun _ => False) ho fun _ _ h => h
  have OA := Lib.hid hi
  have OB := Lib.hid (OB0.out.below hb)
  clear OB0
  have By7 : Hid (Below X.heap.size X y7) := Lib.hid (By6.out.trans (hb.mono By6.out.size))
  clear ho hb hi
  refine ⟨_, rfl, By7.out, ?_⟩
  try simp only [Act.put, List.getElem_toArray, List.getElem_cons_zero, List.getElem_cons_succ, List.setIfInBounds_toArray, List.set_cons_zero, List.set_cons_succ, List.drop_succ_cons, List.drop_zero]
  refine hfO (i := 15) ?_
  refine wpOp_atG rfl (by kernel_rfl) (wp_call_at rfl #[.slice pa 1 ca, .slice (some ⟨g2, 0, none⟩) 1 1] (by kernel_rfl) Tryz.call14 ((equal_same (L := [2]) (n := 1) OA.out OB.out rfl (by omega)).mono ?_))
  rintro e z0 ⟨rfl, m, rfl⟩
  have Bz : Hid (Below X.heap.size X (y7.drewN m)) := Lib.hid (below_drewN By7.out m)
  refine ⟨_, rfl, Bz.out, ?_⟩
  clear OA OB
  generalize y7.drewN m = z at *
  try simp only [Act.put, List.getElem_toArray, List.getElem_cons_zero, List.getElem_cons_succ, List.setIfInBounds_toArray, List.set_cons_zero, List.set_cons_succ, List.drop_succ_cons, List.drop_zero]
  refine hfT (fun w' => Below X.heap.size X w') (m := 9) (f := 7) [16, 17] (?_) ?_
  ·exact Bz.out
  simp only [List.filterMap_cons, List.filterMap_nil, List.getElem?_toArray, List.getElem?_cons_zero, List.getElem?_cons_succ]
  show wpQuiet _ _ _ _ [_, _] _
  iterate 2 (go_big_quiet_step ((intros; rfl)))
  refine wpQuiet_nil ?_
  try simp only [Act.put, List.getElem_toArray, List.getElem_cons_zero, List.getElem_cons_succ, List.setIfInBounds_toArray, List.set_cons_zero, List.set_cons_succ, List.drop_succ_cons, List.drop_zero]
  refine hfO (i := 18) ?_
  refine wpOp_atG rfl (by kernel_rfl) (wp_call_at rfl #[] (by kernel_rfl) Tryz.call24 ((Rules_any z).mono ?_))
  rintro e z1 ⟨rfl, hb⟩
  have Bz1 : Hid (Below X.heap.size X z1) := Lib.hid (Bz.out.trans (hb.mono Bz.out.size))
  clear hb
  refine ⟨_, rfl, Bz1.out, ?_⟩
  try simp only [Act.put, List.getElem_toArray, List.getElem_cons_zero, List.getElem_cons_succ, List.setIfInBounds_toArray, List.set_cons_zero, List.set_cons_succ, List.drop_succ_cons, List.drop_zero]
  refine hfT (fun w' => Below X.heap.size X w') (m := 6) (f := 3) [19, 20, 21] (?_) ?_
  ·exact Bz1.out
  simp only [List.filterMap_cons, List.filterMap_nil, List.getElem?_toArray, List.getElem?_cons_zero, List.getElem?_cons_succ]
  show wpQuiet _ _ _ _ [_, _, _] _
  iterate 3 (go_big_quiet_step ((intros; rfl)))
  refine wpQuiet_nil ?_
  try simp only [Act.put, List.getElem_toArray, List.getElem_cons_zero, List.getElem_cons_succ, List.setIfInBounds_toArray, List.set_cons_zero, List.set_cons_succ, List.drop_succ_cons, List.drop_zero]
  refine hfO (i := 22) ?_
  refine wpOp_atG rfl (by kernel_rfl) (wp_call_at rfl #[.int .i64 2] (by kernel_rfl) Tryz.call23 ((HNM.out z1).mono ?_))
  rintro e z2 ⟨rfl, hb⟩
  have Bz2 : Hid (Below X.heap.size X z2) := Lib.hid (Bz1.out.trans (hb.mono Bz1.out.size))
  clear hb
  refine ⟨_, rfl, Bz2.out, ?_⟩
  try simp only [Act.put, List.getElem_toArray, List.getElem_cons_zero, List.getElem_cons_succ, List.setIfInBounds_toArray, List.set_cons_zero, List.set_cons_succ, List.drop_succ_cons, List.drop_zero]
  refine hfT (fun w' => Below X.heap.size X w') (m := 2) (f := 0) [23, 24] (?_) ?_
  ·exact Bz2.out
  simp only [List.filterMap_cons, List.filterMap_nil, List.getElem?_toArray, List.getElem?_cons_zero, List.getElem?_cons_succ]
  show wpQuiet _ _ _ _ [_, _] _
  iterate 2 (go_big_quiet_step ((intros; rfl)))
  refine wpQuiet_nil ?_
  show Region.seqB _ _ _ _ _ = true ∧ _
  refine ⟨by kernel_rfl, ?_⟩
  simp only [Act.put, List.getElem_toArray, List.getElem_cons_zero, List.getElem_cons_succ, List.setIfInBounds_toArray, List.set_cons_zero, List.set_cons_succ, List.drop_succ_cons, List.drop_zero]
  go_wp2
  refine NoPanic.normal ?_
  go_wp2_with fail
  go_ret
  exact ⟨rfl, BD.out.trans (Bz2.out.mono BD.out.size)⟩
end
end Go.Proofs.YtobgbcdgffgdhaaGreat
