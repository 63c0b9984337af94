/- The chapter's example. -/
import Derived.Test.YtkeclanbebiogaaPr
import Derived.Test.YtkeclanbebiogaaFore
namespace Go.Proofs.Ytkeclanbebiogaa
open Go Go.RowKit
set_option linter.unusedVariables false
set_option linter.unusedSimpArgs false
set_option maxRecDepth 100000

theorem stp_one : stp (wOf [4, 8]) [1] [0] 0 10 = ([(1, 0)], [], [0], 2) := by simp [stp, gr, asg, wOf]
theorem stp_two : stp (wOf [4, 8]) [] [0] 2 10 = ([(0, 1)], [], [], 8) := by simp [stp, gr, asg, wOf]
theorem told_live {L : List Int} (h : Told 0 10 [4, 25, 3] L 3) : L = [1, 3, 4] := by
  obtain ⟨h1, h2⟩ := h
  have e : ∀ i v, i < 3 → At 0 10 (sumTo [4, 25, 3] (i + 1)) v → v ≤ 2147483648 → L.getD i 0 = v := fun i v hi hv hb => (h2 i hi).at (by decide) hv hb
  have e0 := e 0 1 (by decide) ⟨by decide, by decide, .inl rfl⟩ (by decide)
  have e1 := e 1 3 (by decide) ⟨by decide, by decide, .inr (by decide)⟩ (by decide)
  have e2 := e 2 4 (by decide) ⟨by decide, by decide, .inr (by decide)⟩ (by decide)
  match L, h1 with
  | [x, y, z], _ =>
    simp at e0 e1 e2
    rw [e0, e1, e2]
set_option maxHeartbeats 800000 in
theorem alive_any (w : World) : Calls Try.prog 10 #[] w fun e w' => e = .returned (.bool true) ∧ Below w.heap.size w w' := by
  have HN := Lib.hid (fun w => new_some 4 w (by omega) (by omega))
  go_enter Try.func10, Try.ntmps10
  go_wp2_with fail
  refine (HN.out _).mono ?_
  rintro e w1 ⟨rfl, ⟨S1, hl1, hs1⟩, hb1⟩
  have L1 := Lib.hid (And.intro hl1 (And.intro hs1 hb1))
  clear hl1 hs1 hb1 HN
  go_wp2_with fail
  refine (new_at _).mono ?_
  rintro e w2 ⟨rfl, hm2, hb2, hz2⟩
  have P2 : Hid (Pr w w2 w.heap.size w1.heap.size 4 S1 [] [] 0 0) := Lib.hid (pr_new L1.out.1 L1.out.2.1 L1.out.2.2 hm2 hb2)
  clear hm2 hb2 hz2 L1
  generalize hb : w.heap.size = b at *
  generalize w1.heap.size = m at *
  have HB := Lib.hid hb
  clear hb
  have H1 := P2.out.push 1 0
  rw [show errP 4 [] [] 1 = 0 from rfl, show pushF 4 [] 1 0 = [] from rfl, show pushV 4 [] 1 0 = [0] from rfl] at H1
  have H1 := Lib.hid H1
  clear P2
  go_wp2_with fail
  refine H1.out.mono ?_
  rintro e w3 ⟨rfl, S3, P3, -⟩
  clear H1
  have H2 := P3.out.push 0 1
  rw [show errP 4 [] [0] 0 = 0 from rfl, show pushF 4 [] 0 1 = [1] from rfl, show pushV 4 [0] 0 1 = [0] from rfl] at H2
  have H2 := Lib.hid H2
  clear P3
  go_wp2_with fail
  refine H2.out.mono ?_
  rintro e w4 ⟨rfl, S4, P4, -⟩
  clear H2
  have P5 := Lib.hid (P4.out.alloc (.cells #[.int .u64 4, .int .u64 8] 35))
  have U5 : Hid (UAt (w4.alloc (.cells #[.int .u64 4, .int .u64 8] 35)) (fun i => i = m ∨ S4 i) (some ⟨w4.heap.size, 0, none⟩) [4, 8]) := Lib.hid (UAt.of_blk (L := [4, 8]) (Blk.new w4 _ _) (fun e => e.elim (fun e => by have := P4.out.mlt; omega) (fun e => Nat.lt_irrefl _ (P4.out.1.lt _ e))))
  have hA : Amts [4, 8] := fun j => by
    rcases j with _ | _ | j <;> simp
  have HA := Lib.hid hA
  have M4 : Hid (m < w4.heap.size) := Lib.hid P4.out.mlt
  have H5 := P5.out.step_new (x := 10) (ep := 5) (cap := 2) U5.out (by decide) HA.out (by decide) (by decide) (by decide)
  rw [stp_one] at H5
  have H5 := Lib.hid H5
  clear P4 P5 U5 hA
  go_wp2_with fail
  refine H5.out.mono ?_
  rintro e w6 ⟨a6, c6, S6, rfl, P6, -, A6, -⟩
  clear H5
  have A6' : Hid (AAt w6 (fun i => i = m ∨ S6 i) a6 6 [(1, 0)]) := Lib.hid (A6.out.other (fun i _ h => h.elim (fun h => .inl (by have := M4.out; simp; omega)) .inr))
  have P6' : Hid (Pr w w6 b m 4 S6 [] [0] 2 8) := P6
  clear P6 A6
  have P7 := Lib.hid (P6'.out.alloc (.cells #[.int .u64 4, .int .u64 8] 35))
  have U7 : Hid (UAt (w6.alloc (.cells #[.int .u64 4, .int .u64 8] 35)) (fun i => i = m ∨ S6 i) (some ⟨w6.heap.size, 0, none⟩) [4, 8]) := Lib.hid (UAt.of_blk (L := [4, 8]) (Blk.new w6 _ _) (fun e => e.elim (fun e => by have := P6'.out.mlt; omega) (fun e => Nat.lt_irrefl _ (P6'.out.1.lt _ e))))
  have A7 := Lib.hid (A6'.out.below ((Below.refl _ _).alloc (Nat.le_refl _) (.cells #[.int .u64 4, .int .u64 8] 35)))
  have M7 : Hid (¬ S6 m) := Lib.hid P6'.out.2.2.1
  have H7 := P7.out.step_new (x := 10) (ep := 6) (cap := 2) U7.out (by decide) HA.out (by decide) (by decide) (by decide)
  rw [stp_two] at H7
  have H7 := Lib.hid H7
  clear P6' P7 U7 A6' HA
  go_wp2_with fail
  refine H7.out.mono ?_
  rintro e w8 ⟨a8, c8, S8, rfl, P8, G8, A8, K8⟩
  have A8' : Hid (AAt w8 (fun _ => False) a8 7 [(0, 1)]) := Lib.hid (A8.out.other (fun i _ h => h.elim))
  have A9 : Hid (AAt w8 (fun _ => False) a6 6 [(1, 0)]) := Lib.hid ((A7.out.kept K8.out (fun i hi e => e)).other (fun _ _ h => h.elim))
  clear H7 A8 A7 K8 G8 M7 M4
  have U9 : Hid (UAt (w8.alloc (.cells #[.int .u64 4, .int .u64 25, .int .u64 3] 35)) (fun _ => False) (some ⟨w8.heap.size, 0, none⟩) [4, 25, 3]) := Lib.hid (UAt.of_blk (L := [4, 25, 3]) (Blk.new w8 _ _) (fun e => e))
  have hA2 : Amts [4, 25, 3] := fun j => by
    rcases j with _ | _ | _ | j <;> simp
  have H9 := Lib.hid (forecast_any (bal := 0) (lim := 10) (cap := 3) U9.out hA2 (by decide) (by decide) (by decide) (by decide) (by decide))
  have P9 := Lib.hid (P8.out.alloc (.cells #[.int .u64 4, .int .u64 25, .int .u64 3] 35))
  have B9 : Hid (Below w8.heap.size w8 (w8.alloc (.cells #[.int .u64 4, .int .u64 25, .int .u64 3] 35))) := Lib.hid ((Below.refl _ _).alloc (Nat.le_refl _) _)
  clear hA2 U9 P8
  go_wp2_with fail
  refine H9.out.mono ?_
  rintro e w10 ⟨a10, c10, L, rfl, hL, O10, b10⟩
  obtain rfl := told_live hL
  have P10 := Lib.hid (P9.out.below b10)
  have E1 : Hid (AAt w10 (fun _ => False) a8 7 [(0, 1)]) := Lib.hid ((A8'.out.below B9.out).below b10)
  have E2 : Hid (AAt w10 (fun _ => False) a6 6 [(1, 0)]) := Lib.hid ((A9.out.below B9.out).below b10)
  obtain ⟨a11, c11, e11, _, _, _, hi⟩ := ints_of_owns (S := fun _ => False) (L := [1, 3, 4]) O10.out (fun _ _ h => h)
  injection e11 with e1 _ e3
  subst e1 e3
  have I10 : Hid (IntsAt (w10.alloc (.cells #[.int .i64 1, .int .i64 3, .int .i64 4] 3)) (fun _ => False) a10 [1, 3, 4]) := Lib.hid (hi.below ((Below.refl _ _).alloc (Nat.le_refl _) _))
  have J10 : Hid (IntsAt (w10.alloc (.cells #[.int .i64 1, .int .i64 3, .int .i64 4] 3)) (fun _ => False) (some ⟨w10.heap.size, 0, none⟩) [1, 3, 4]) := Lib.hid (IntsAt.of_blk (L := [1, 3, 4]) (Blk.new w10 _ _) (fun h => h))
  have HQ := Lib.hid (equal_same (n := 3) (c := c10) (d := 3) I10.out J10.out rfl (by decide))
  have P11 := Lib.hid (P10.out.alloc (.cells #[.int .i64 1, .int .i64 3, .int .i64 4] 3))
  have B11 : Hid (Below w10.heap.size w10 (w10.alloc (.cells #[.int .i64 1, .int .i64 3, .int .i64 4] 3))) := Lib.hid ((Below.refl _ _).alloc (Nat.le_refl _) _)
  have F1 := Lib.hid (E1.out.below B11.out)
  have F2 := Lib.hid (E2.out.below B11.out)
  clear hi hL b10 O10 I10 J10 P9 B9 H9 A8' A9 E1 E2 P10 B11
  go_wp2_with fail
  refine HQ.out.mono ?_
  rintro e w12 ⟨rfl, q, hq⟩
  have P12 : Hid (Pr w w12 b m 4 S8 [] [] 0 4) := Lib.hid (hq ▸ P11.out.drewN q)
  have G1 : Hid (AAt w12 (fun _ => False) a8 7 [(0, 1)]) := Lib.hid (hq ▸ F1.out.drewN q)
  have G2 : Hid (AAt w12 (fun _ => False) a6 6 [(1, 0)]) := Lib.hid (hq ▸ F2.out.drewN q)
  clear hq HQ P11 F1 F2
  have N1 : Hid (AAt (w12.alloc (.cells #[.int .i64 1, .int .i64 0, .int .i64 6] 51)) (fun _ => False) (some ⟨w12.heap.size, 0, none⟩) 6 [(1, 0)]) := Lib.hid (asg_one (Blk.new w12 _ (cellsT 1 0 6)) (fun h => h))
  have B12 : Hid (Below w12.heap.size w12 (w12.alloc (.cells #[.int .i64 1, .int .i64 0, .int .i64 6] 51))) := Lib.hid ((Below.refl _ _).alloc (Nat.le_refl _) _)
  have HQ := Lib.hid (equal_asg a6 _ 1 c6 1 6 _ _ _ _ (G2.out.below B12.out) N1.out (by decide) rfl)
  have P13 := Lib.hid (P12.out.below B12.out)
  have G3 := Lib.hid (G1.out.below B12.out)
  clear P12 G1 G2 N1 B12
  go_wp2_with fail
  refine HQ.out.mono ?_
  rintro e w14 ⟨rfl, q, hq⟩
  have P14 : Hid (Pr w w14 b m 4 S8 [] [] 0 4) := Lib.hid (hq ▸ P13.out.drewN q)
  have G4 : Hid (AAt w14 (fun _ => False) a8 7 [(0, 1)]) := Lib.hid (hq ▸ G3.out.drewN q)
  clear hq HQ P13 G3
  have N1 : Hid (AAt (w14.alloc (.cells #[.int .i64 0, .int .i64 1, .int .i64 7] 51)) (fun _ => False) (some ⟨w14.heap.size, 0, none⟩) 7 [(0, 1)]) := Lib.hid (asg_one (Blk.new w14 _ (cellsT 0 1 7)) (fun h => h))
  have B14 : Hid (Below w14.heap.size w14 (w14.alloc (.cells #[.int .i64 0, .int .i64 1, .int .i64 7] 51))) := Lib.hid ((Below.refl _ _).alloc (Nat.le_refl _) _)
  have HQ := Lib.hid (equal_asg a8 _ 1 c8 1 7 _ _ _ _ (G4.out.below B14.out) N1.out (by decide) rfl)
  have P15 := Lib.hid (P14.out.below B14.out)
  clear P14 G4 N1 B14
  go_wp2_with fail
  refine HQ.out.mono ?_
  rintro e w16 ⟨rfl, q, hq⟩
  have P16 : Hid (Pr w w16 b m 4 S8 [] [] 0 4) := Lib.hid (hq ▸ P15.out.drewN q)
  clear hq HQ P15
  go_wp2_with fail
  refine P16.out.balance.mono ?_
  rintro e w17 ⟨rfl, q, rfl⟩
  have P17 := Lib.hid (P16.out.drewN q)
  clear P16
  go_wp2_with fail
  go_ret
  exact ⟨rfl, P17.out.2.2.2.2.2⟩
end Go.Proofs.Ytkeclanbebiogaa
