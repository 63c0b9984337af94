/- The walk of AssignOrder. (Written by mkord.py.) -/
import Derived.Test.YtkeclanbebiogaaOrd
import Derived.Test.YtkeclanbebiogaaFirst
import Derived.Test.YtkeclanbebiogaaUOwn
import Derived.OpenShut
import Derived.Outline
import Derived.LoopN
namespace Go.Proofs.Ytkeclanbebiogaa
open Go Go.RowKit Go.OpenShut
set_option linter.unusedVariables false
set_option linter.unusedSimpArgs false
set_option maxRecDepth 100000

theorem src_int (w : World) (x : Int) : (0 < 1 → ∃ ad, some (⟨w.heap.size, 0, none⟩ : Addr) = some ad ∧ ∀ j u, [Value.int .i64 x][j]? = some u → (w.alloc (.cells #[.int .i64 x] 3)).cell? (ad.add j) = some u) ∧ ∀ u ∈ [Value.int .i64 x], u.oneCell' = true := by
  refine ⟨fun _ => ⟨_, rfl, fun j u hj => ?_⟩, fun u hu => by simp at hu; subst hu; rfl⟩
  rw [add_plain, Nat.zero_add, (Blk.new w 3 #[.int .i64 x]).cell]
  simpa using hj
set_option maxHeartbeats 12800000 in
theorem walk_AssignOrder (a0 : Option Addr) (len0 cap0 : Nat) (a1 : Option Addr) (len1 cap1 : Nat) (z1 : List Int) (w : World) (w0 : IsRounds w a0 len0 cap0) (w1 : IsRow .u64 w a1 len1 cap1 z1) :
    Calls Try.prog 5 #[.slice a0 len0 cap0, .slice a1 len1 cap1] w fun e w' => e = .returned (.bool true) ∧ Below w.heap.size w w' := by
  obtain ⟨j0, hj0, hz0, hz1, hz2⟩ := int_app
  obtain ⟨hlc, hcm, R, hR⟩ := w0
  have hl0 : len0 ≤ 9223372036854775807 := by unfold maxLen at hcm; omega
  obtain ⟨hu, hl1, hm1, hA⟩ := UAt.of_row w1
  generalize z1.take len1 = L at *
  subst hl1
  have HR := Lib.hid hR
  have HU := Lib.hid hu
  have HA := Lib.hid hA
  have HF := Lib.hid (few_any a0 len0 cap0 R w hR hl0)
  have HN := Lib.hid (fun w => new_some 500 w (by omega) (by omega))
  clear w1 hR hu hA hlc hcm
  go_enter Try.func5, Try.ntmps5
  go_wp2_with fail
  refine HF.out.mono ?_
  rintro e w1 ⟨r, rfl, hr, hb⟩
  have HB1 := Lib.hid hb
  have HFR := Lib.hid hr
  clear hb hr HF
  cases r
  · go_wp2_with fail
    refine (alive_any _).mono ?_
    rintro e w3 ⟨rfl, hb⟩
    have HB := Lib.hid (HB1.out.trans (hb.mono HB1.out.size))
    clear hb
    go_wp2_with fail
    go_ret
    exact ⟨rfl, HB.out⟩
  · by_cases h100 : (100 : Int) < (L.length : Int)
    · go_wp2_with fail
      refine (alive_any _).mono ?_
      rintro e w3 ⟨rfl, hb⟩
      have HB := Lib.hid (HB1.out.trans (hb.mono HB1.out.size))
      clear hb
      go_wp2_with fail
      go_ret
      exact ⟨rfl, HB.out⟩
    · have h40 := (HFR.out rfl).1
      have HF20 := Lib.hid (HFR.out rfl).2
      clear HFR
      go_wp2_with fail
      refine (HN.out _).mono ?_
      rintro e w2 ⟨rfl, ⟨S1, q1, q2⟩, q3⟩
      have Q := Lib.hid (And.intro q1 (And.intro q2 q3))
      clear q1 q2 q3 HN
      go_wp2_with fail
      refine (new_at _).mono ?_
      rintro e w3 ⟨rfl, m1, m2, m3⟩
      have LW := Lib.hid (ord_new (law_new (w0 := w) (nn := 500) Q.out.1 (fun i hi => Nat.le_trans HB1.out.size (Q.out.2.1 i hi)) (HB1.out.trans (Q.out.2.2.mono HB1.out.size)) m1 m2 m3 (by omega)))
      have hzz : (w3.alloc (.cells #[.slice none 0 0, .slice none 0 0, .int .i64 500] 33)).heap.size = w3.heap.size + 1 := by simp
      have hz8 : ((500 : Nat) : Int) = 500 := rfl
      rw [hz8] at LW
      rw [hzz] at LW
      clear m1 m2 m3 Q HB1 hzz hz8
      go_wp2_with fail
      generalize ((w3.alloc (.cells #[.slice none 0 0, .slice none 0 0, .int .i64 500] 33)).alloc (.cells #[.slice none 0 0, .slice none 0 0] 55)).alloc (.cells #[.slice none 0 0, .slice none 0 0] 55) = w4 at *
      generalize w1.heap.size = b at *
      generalize w2.heap.size = m at *
      generalize w3.heap.size + 1 + 1 = bq at *
      generalize w3.heap.size + 1 = bp at *
      generalize w3.heap.size = d at *

      go_loopw [10, 38] (fun s10 s38 wr => ∃ (k : Nat) (S : Nat → Prop) (F V RF RV : List Int) (B Sp : Int) (val : Nat → Value) (lst : Nat → List Int) (l : Int), k ≤ len0 ∧ s38 = .int .i64 k ∧ s10 = .int .i64 l ∧ 0 ≤ l ∧ l ≤ k ∧ Hid (Ord w wr b m d S F V RF RV B Sp bp bq val lst) ∧ Hid (OInv lst F V ∧ (lst 0).length ≤ k * 20 ∧ (lst 1).length ≤ k * 20 ∧ (lst 2).length ≤ k * 1000 ∧ (lst 3).length ≤ k * 1000)) (fun _ s38 _ => len0 - (intOf s38).toNat)
      case atStart => exact ⟨0, S1, [], [], [], [], 0, 0, _, _, 0, by omega, rfl, rfl, by omega, by omega, LW, Lib.hid ⟨⟨fun _ => rfl, fun _ => rfl⟩, by simp, by simp, by simp, by simp⟩⟩
      case round =>
        clear LW
        obtain ⟨k, S, F, V, RF, RV, B, Sp, val, lst, l, hk, rfl, rfl, hl0', hlk, HL, HI⟩ := hrel
        by_cases hkl : k < len0
        · obtain ⟨rb, ro, rfl, hrb, hx, hrn⟩ := HR.out.at HL.out.1.bel hkl
          have hrnd : RndAt w (fun _ => False) (R k) := by
            obtain ⟨_, _, e, _, hc⟩ := HR.out (by omega)
            exact (hc k hkl).2
          have h20 := HF20.out k hkl
          generalize R k = r at *
          have HRN := Lib.hid hrnd
          have H20 := Lib.hid h20
          have HLR := Lib.hid (HL.out.alloc (.cells (cellsR r) 39))
          have HBK : Hid (Blk (wr.alloc (.cells (cellsR r) 39)) wr.heap.size 39 (cellsR r)) := Lib.hid (Blk.new wr _ _)
          have HZ : Hid (¬ S wr.heap.size ∧ wr.heap.size ≠ d ∧ wr.heap.size ≠ m ∧ ¬ XO m bp bq val wr.heap.size) := Lib.hid ⟨fun e => Nat.lt_irrefl _ (HL.out.1.1.1.lt _ e), fun e => by have := HL.out.1.2.1.lt; omega, fun e => by have := HL.out.1.1.mlt; omega, HL.out.box _ (Nat.le_refl _)⟩
          obtain ⟨_, _, _, _, lm0, lm1⟩ := hrnd
          clear HL hrn h20
          go_wp2_with (first | (refine wpList_load_rnd rfl 39 _ rfl rb (ro + k * 3) rfl r _ hx.out Try.underlying39 rfl infoR ?_) | (refine wpList_store_row rfl _ _ _ rfl wr.heap.size (cellsR r) rfl rfl 39 _ (heap_alloc_new wr _) infoR rfl (cellsR_one r) ?_; rw [World.setRow_alloc_new]) | (refine wpList_load_row rfl 39 _ rfl wr.heap.size rfl 39 (cellsR r) (0, 0) _ HBK.out Try.underlying39 rfl infoR ?_))
          refine (HLR.out.push r HRN.out).mono ?_
          rintro e w5 ⟨rfl, S5, O5, K5, G5⟩
          have B5 : Hid (Blk w5 wr.heap.size 39 (cellsR r) ∧ ¬ S5 wr.heap.size) := Lib.hid ⟨Blk.kept HBK.out K5.out (fun e => e.elim HZ.out.1 HZ.out.2.1), fun e => (G5.out _ e).elim HZ.out.1 (fun e => by simp at e; omega)⟩
          clear HLR HBK K5 G5 hx
          obtain ⟨af, cf, FL, av, cv, VL, lim⟩ := r
          dsimp only at *
          have O0 := O5
          clear O5
          obtain ⟨nf, hnf⟩ : ∃ nf, FL.length = nf := ⟨_, rfl⟩
          obtain ⟨nv, hnv⟩ : ∃ nv, VL.length = nv := ⟨_, rfl⟩
          have HN0 := Lib.hid hnf
          have HN1 := Lib.hid hnv
          have HLN : Hid ((lst 0).length ≤ 800 ∧ (lst 1).length ≤ 800 ∧ nf ≤ 20 ∧ nv ≤ 20) := Lib.hid (by have := HI.out.2; have := H20.out; omega)
          have hnf20 := HLN.out.2.2.1
          have hnv20 := HLN.out.2.2.2
          have SR0 := Lib.hid ((HRN.out.1.below O0.out.1.bel).src)
          rw [hnf] at SR0
          have x0 : w5.cell? ⟨bp, 0, none⟩ = some (val 0) := O0.out.2.cells.1
          have x1 : w5.cell? ⟨wr.heap.size, 0, none⟩ = some (.slice af nf cf) := by rw [← hnf]; exact B5.out.1.cell 0
          obtain ⟨z, hz⟩ : ∃ z, wr.heap.size = z := ⟨_, rfl⟩
          rw [hz] at B5 HZ x1 ⊢
          clear hz hnf hnv
          obtain ⟨wo, hwo⟩ : ∃ wo, wo = wr := ⟨_, rfl⟩
          subst hwo
          go_upto_region 14 with (at_builtin; refine wpList_append_src _ rfl (.tmp 48) (.tmp 50) 31 rfl (bq + 1) 3 j0 _ 1 8 Try.underlying31 hj0 hz0 hz1 hz2 rfl Nat.one_pos (val 0) (lst 0).length ((lst 0).map (Value.int .i64)) rfl (O0.out.row 0) af nf cf (FL.map (Value.int .i64)) rfl (by simp [HN0.out]) (fun h0 => by obtain ⟨ad, e, _, hc⟩ := SR0.out.2.2 h0; exact ⟨ad, e, hc⟩) SR0.out.2.1 (by have := HLN.out; unfold maxLen; omega) (by have := HLN.out; omega) O0.out.lt ?_; intro v6 w6 ho6 hg6 ha6; obtain ⟨a6, c6, rfl⟩ := owns_slice ho6; obtain ⟨P6, K6, X6⟩ := O0.out.app (j := 0) (Ls := FL) (by omega) (Kept.refl _ _) (by rw [List.length_append, List.map_append, HN0.out]; exact ho6) hg6 ha6; have PP6 := Lib.hid P6; have KK6 := Lib.hid K6; have XX6 := Lib.hid X6; have z0 : w6.cell? ⟨bp, 0, none⟩ = some (val 0) := (O0.out.ready (j := 0) (by omega) (Kept.refl _ _) hg6).1; have z1 : w6.frozen? ⟨bp, 0, none⟩ = false := (O0.out.ready (j := 0) (by omega) (Kept.refl _ _) hg6).2; clear ho6 hg6 ha6 P6 K6 X6)
          have O1' : Hid (Ord w (w6.setCell ⟨bp, 0, none⟩ (.slice a6 ((lst 0).length + nf) c6)) b m d S5 (pAll 500 F FL) (pAll 500 V VL) (pAll 500 RF FL) (pAll 500 RV VL) B Sp bp bq (upd val 0 (.slice a6 ((lst 0).length + nf) c6)) (upd lst 0 (lst 0 ++ FL))) := PP6
          have KK7 : Hid (Kept (XO m bp bq val) w5 (w6.setCell ⟨bp, 0, none⟩ (.slice a6 ((lst 0).length + nf) c6))) := KK6
          have B7 : Hid (Blk (w6.setCell ⟨bp, 0, none⟩ (.slice a6 ((lst 0).length + nf) c6)) z 39 (cellsR ⟨af, cf, FL, av, cv, VL, lim⟩) ∧ ¬ S5 z) := Lib.hid ⟨Blk.kept B5.out.1 KK7.out HZ.out.2.2.2, B5.out.2⟩
          have NX7 : Hid (¬ XO m bp bq (upd val 0 (.slice a6 ((lst 0).length + nf) c6)) z) := Lib.hid (fun e => HZ.out.2.2.2 (XX6.out z B5.out.1.lt e))
          have HL1' : Hid ((upd lst 0 (lst 0 ++ FL)) 0 = lst 0 ++ FL ∧ (upd lst 0 (lst 0 ++ FL)) 1 = lst 1 ∧ (upd lst 0 (lst 0 ++ FL)) 2 = lst 2 ∧ (upd lst 0 (lst 0 ++ FL)) 3 = lst 3) := Lib.hid ⟨rfl, rfl, rfl, rfl⟩
          clear PP6 KK6 XX6 KK7 B5 O0 SR0 x0 x1 z0 z1
          generalize w6.setCell ⟨bp, 0, none⟩ (.slice a6 ((lst 0).length + nf) c6) = w7 at *
          obtain ⟨val1, hval1⟩ : ∃ val1, upd val 0 (.slice a6 ((lst 0).length + nf) c6) = val1 := ⟨_, rfl⟩
          obtain ⟨lst1, hlst1⟩ : ∃ lst1, upd lst 0 (lst 0 ++ FL) = lst1 := ⟨_, rfl⟩
          rw [hval1] at O1' NX7
          rw [hlst1] at O1' HL1'
          have O1 := O1'
          have HL1 := HL1'
          clear hval1 hlst1 O1' HL1'
          have hlst11 : (lst1 1).length = (lst 1).length := by rw [HL1.out.2.1]
          have HLN1 : Hid ((lst1 1).length ≤ 800) := Lib.hid (by rw [hlst11]; exact HLN.out.2.1)
          clear hlst11
          have SR1' := Lib.hid ((HRN.out.2.1.below O1.out.1.bel).src)
          have SR1 : Hid (Src w7 (fun _ => False) av nv 1 (VL.map (Value.int .i64))) := Lib.hid (by have := SR1'.out; rwa [HN1.out] at this)
          have x0 : w7.cell? ⟨bp, 1, none⟩ = some (val1 1) := O1.out.2.cells.2.1
          have x1 : w7.cell? ⟨z, 1, none⟩ = some (.slice av nv cv) := by rw [← HN1.out]; exact B7.out.1.cell 1
          clear SR1'
          go_upto_region 15 with (at_builtin; refine wpList_append_src _ rfl (.tmp 54) (.tmp 56) 31 rfl (bq + 1) 3 j0 _ 1 8 Try.underlying31 hj0 hz0 hz1 hz2 rfl Nat.one_pos (val1 1) (lst1 1).length ((lst1 1).map (Value.int .i64)) rfl (O1.out.row 1) av nv cv (VL.map (Value.int .i64)) rfl (by simp [HN1.out]) (fun h0 => by obtain ⟨ad, e, _, hc⟩ := SR1.out.2.2 h0; exact ⟨ad, e, hc⟩) SR1.out.2.1 (by have := HLN1.out; unfold maxLen; omega) (by have := HLN1.out; omega) O1.out.lt ?_; intro v8 w8 ho8 hg8 ha8; obtain ⟨a8, c8, rfl⟩ := owns_slice ho8; obtain ⟨P8, K8, X8⟩ := O1.out.app (j := 1) (Ls := VL) (by omega) (Kept.refl _ _) (by rw [List.length_append, List.map_append, HN1.out]; exact ho8) hg8 ha8; have PP8 := Lib.hid P8; have KK8 := Lib.hid K8; have XX8 := Lib.hid X8; have z0 : w8.cell? ⟨bp, 1, none⟩ = some (val1 1) := (O1.out.ready (j := 1) (by omega) (Kept.refl _ _) hg8).1; have z1 : w8.frozen? ⟨bp, 1, none⟩ = false := (O1.out.ready (j := 1) (by omega) (Kept.refl _ _) hg8).2; clear ho8 hg8 ha8 P8 K8 X8)
          have O2' : Hid (Ord w (w8.setCell ⟨bp, 1, none⟩ (.slice a8 ((lst1 1).length + nv) c8)) b m d S5 (pAll 500 F FL) (pAll 500 V VL) (pAll 500 RF FL) (pAll 500 RV VL) B Sp bp bq (upd val1 1 (.slice a8 ((lst1 1).length + nv) c8)) (upd lst1 1 (lst1 1 ++ VL))) := PP8
          have KK9 : Hid (Kept (XO m bp bq val1) w7 (w8.setCell ⟨bp, 1, none⟩ (.slice a8 ((lst1 1).length + nv) c8))) := KK8
          have B9 : Hid (Blk (w8.setCell ⟨bp, 1, none⟩ (.slice a8 ((lst1 1).length + nv) c8)) z 39 (cellsR ⟨af, cf, FL, av, cv, VL, lim⟩) ∧ ¬ S5 z) := Lib.hid ⟨Blk.kept B7.out.1 KK9.out NX7.out, B7.out.2⟩
          have HL2' : Hid ((upd lst1 1 (lst1 1 ++ VL)) 0 = lst 0 ++ FL ∧ (upd lst1 1 (lst1 1 ++ VL)) 1 = lst 1 ++ VL ∧ (upd lst1 1 (lst1 1 ++ VL)) 2 = lst 2 ∧ (upd lst1 1 (lst1 1 ++ VL)) 3 = lst 3) := Lib.hid ⟨HL1.out.1, by show lst1 1 ++ VL = _; rw [HL1.out.2.1], HL1.out.2.2.1, HL1.out.2.2.2⟩
          clear PP8 KK8 XX8 KK9 B7 O1 SR1 x0 x1 z0 z1 NX7 HL1 HLN1
          generalize w8.setCell ⟨bp, 1, none⟩ (.slice a8 ((lst1 1).length + nv) c8) = w9 at *
          obtain ⟨val2, hval2⟩ : ∃ val2, upd val1 1 (.slice a8 ((lst1 1).length + nv) c8) = val2 := ⟨_, rfl⟩
          obtain ⟨lst2, hlst2⟩ : ∃ lst2, upd lst1 1 (lst1 1 ++ VL) = lst2 := ⟨_, rfl⟩
          rw [hval2] at O2'
          rw [hlst2] at O2' HL2'
          have O2 := O2'
          have HL2 := HL2'
          have HOP := Lib.hid (HI.out.1.push HL2.out.1 HL2.out.2.1 HL2.out.2.2.1 HL2.out.2.2.2)
          have HLE : Hid ((lst2 0).length ≤ (k + 1) * 20 ∧ (lst2 1).length ≤ (k + 1) * 20 ∧ (lst2 2).length ≤ k * 1000 ∧ (lst2 3).length ≤ k * 1000) := Lib.hid (by
            obtain ⟨g0, g1, g2, g3⟩ := HL2.out
            obtain ⟨_, g4, g5, g6, g7⟩ := HI.out
            have := HN0.out
            have := HN1.out
            rw [g0, g1, g2, g3]
            simp
            omega)
          clear hval2 hlst2 O2' HL2' HL2 HI HN0 HN1 HLN hnf20 hnv20 H20 HRN
          generalize pAll 500 F FL = F5 at *
          generalize pAll 500 V VL = V5 at *
          generalize pAll 500 RF FL = RF5 at *
          generalize pAll 500 RV VL = RV5 at *
          have x2 : w9.cell? ⟨z, 2, none⟩ = some (.int .u64 lim) := B9.out.1.cell 2
          have HST := Lib.hid (O2.out.step (x := lim) (ep := k) (cap := cap1) (HU.out.below O2.out.1.bel) (by omega) HA.out lm0 (by omega) (by omega))
          have HBO : Hid ((stp (wOf L) F5 V5 B lim).1.length ≤ 1000 ∧ ∀ p ∈ (stp (wOf L) F5 V5 B lim).1, p.2 = 0 ∨ p.2 = 1) := Lib.hid (by
            have h1 := asg_len (wOf L) F5 V5 (gr B lim)
            have h2 := asg_class (wOf L) F5 V5 (gr B lim)
            have h8 := O2.out.1.1.1.size
            unfold stp
            exact ⟨by omega, h2⟩)
          have HOI := Lib.hid (fun lst' e0 e1 e2 e3 => HOP.out.step (lst' := lst') (om := wOf L) (B := B) (x := lim) e0 e1 e2 e3)
          have HXO : Hid (∀ i, XO m bp bq val2 i → i < w9.heap.size) := Lib.hid (fun i e => Classical.byContradiction (fun hn => O2.out.box i (by omega) e))
          clear HOP
          generalize sumW (wOf L) (stp (wOf L) F5 V5 B lim).1 = st at *
          generalize stp (wOf L) F5 V5 B lim = rr at *
          obtain ⟨out, F7, V7, E7⟩ := rr
          dsimp only at HBO HOI
          go_wp2_with fail
          refine HST.out.mono ?_
          rintro e w10 ⟨a7, c7, S7, he, O7', G7, A7, K7⟩
          change e = .returned (.slice a7 out.length c7) at he
          subst he
          have O7 : Hid (Ord w w10 b m d S7 F7 V7 RF5 RV5 (balOf (out, F7, V7, E7)) st bp bq val2 lst2) := O7'
          have A8 : Hid (AAt w10 (XO m bp bq val2) a7 ((k : Int) + 1) out) := Lib.hid (A7.out.other (fun i _ e => .inl (HXO.out i e)))
          clear HST O7' G7 A7 K7 x2 B9 O2 HXO HZ
          generalize balOf (out, F7, V7, E7) = bl at *
          obtain ⟨no, hno⟩ : ∃ no, out.length = no := ⟨_, rfl⟩
          rw [hno] at HBO
          rw [hno]
          have HNO := Lib.hid hno
          have hno1 := HBO.out.1
          clear hno
          go_wp2_with fail
          go_loopw [10, 67] (fun s10 s67 wi => ∃ (i : Nat) (l' : Int) (val' : Nat → Value) (lst' : Nat → List Int), i ≤ no ∧ s67 = .int .i64 i ∧ s10 = .int .i64 l' ∧ 0 ≤ l' ∧ l' ≤ (k : Int) + 1 ∧ Hid (Ord w wi b m d S7 F7 V7 RF5 RV5 bl st bp bq val' lst') ∧
            Hid ((lst' 0 = lst2 0 ∧ lst' 1 = lst2 1 ∧ lst' 2 = lst2 2 ++ fl 0 (out.take i) ∧ lst' 3 = lst2 3 ++ fl 1 (out.take i)) ∧ (lst' 0).length ≤ 40000 ∧ (lst' 1).length ≤ 40000 ∧ (lst' 2).length ≤ k * 1000 + i ∧ (lst' 3).length ≤ k * 1000 + i) ∧ Hid (AAt wi (XO m bp bq val') a7 ((k : Int) + 1) out)) (fun _ s67 _ => no - (intOf s67).toNat)
          case atStart => exact ⟨0, l, val2, lst2, by omega, rfl, rfl, hl0', by omega, O7, Lib.hid ⟨⟨rfl, rfl, by simp [fl], by simp [fl]⟩, by have := HLE.out; omega, by have := HLE.out; omega, by have := HLE.out; omega, by have := HLE.out; omega⟩, A8⟩
          case round =>
            clear O7 A8
            obtain ⟨i, l', val', lst', hi, rfl, rfl, hl1', hl2', OI, HS, AI⟩ := hrel
            by_cases hin : i < no
            · obtain ⟨⟨pi, pc⟩, hp⟩ : ∃ p, out[i]? = some p := ⟨_, List.getElem?_eq_getElem (by rw [HNO.out]; exact hin)⟩
              have hpc := HBO.out.2 _ (List.mem_of_getElem? hp)
              obtain ⟨ab, ao, rfl, _, hab, hac⟩ := AI.out (by rw [HNO.out]; omega)
              have r1 : wr.rangeAt ab (ao + i * 3) (rowT pi pc ((k : Int) + 1)) := hac i _ hp
              dsimp only at hpc
              clear hac
              rcases hpc with rfl | rfl
              · have R1 := Lib.hid r1
                clear r1
                have D0 : Hid (Blk (wr.alloc (.cells (cellsT pi 0 ((k : Int) + 1)) 51)).drew wr.heap.size 51 (cellsT pi 0 ((k : Int) + 1)) ∧ (wr.alloc (.cells (cellsT pi 0 ((k : Int) + 1)) 51)).drew.cell? ⟨bq, 0, none⟩ = some (val' 2)) := Lib.hid ⟨Blk.drew (Blk.new wr _ _), ((OI.out.alloc _).drewN 1).2.cells.2.2.1⟩
                have O4 : Hid (Ord w (wr.alloc (.cells (cellsT pi 0 ((k : Int) + 1)) 51)).drew b m d S7 F7 V7 RF5 RV5 bl st bp bq val' lst') := Lib.hid ((OI.out.alloc _).drewN 1)
                have NX : Hid (¬ XO m bp bq val' wr.heap.size) := Lib.hid (OI.out.box _ (Nat.le_refl _))
                have A4 : Hid (AAt (wr.alloc (.cells (cellsT pi 0 ((k : Int) + 1)) 51)).drew (XO m bp bq val') (some ⟨ab, ao, none⟩) ((k : Int) + 1) out) := Lib.hid ((AI.out.below ((Below.refl _ _).alloc (Nat.le_refl _) _)).drewN 1)
                have y1 : (wr.alloc (.cells (cellsT pi 0 ((k : Int) + 1)) 51)).cell? ⟨wr.heap.size, 1, none⟩ = some (.int .i64 0) := (Blk.new wr _ (cellsT pi 0 ((k : Int) + 1))).cell 1
                have y2 : (wr.alloc (.cells (cellsT pi 0 ((k : Int) + 1)) 51)).cell? ⟨wr.heap.size, 2, none⟩ = some (.int .i64 ((k : Int) + 1)) := (Blk.new wr _ (cellsT pi 0 ((k : Int) + 1))).cell 2
                have hl2 : (lst' 2).length ≤ 50000 := by have := (HS.out).2.2.2.1; omega
                clear OI AI
                go_wp2_with (first
                  | (refine wpList_load_mid rfl 51 _ rfl ab (ao + i * 3) rfl (rowT pi 0 ((k : Int) + 1)) _ R1.out Try.underlying51 rfl infoAs ?_)
                  | (refine wpList_store_row rfl _ _ _ rfl wr.heap.size (cellsT pi 0 ((k : Int) + 1)) rfl rfl 51 _ (heap_alloc_new wr _) infoAs rfl (cellsT_one _ _ _) ?_; rw [World.setRow_alloc_new]))
                clear y1 y2
                generalize wr.alloc (.cells (cellsT pi 0 ((k : Int) + 1)) 51) = W at *
                generalize wr.heap.size = zz at *
                refine wp_region_first (fun w' => Blk w' zz 51 (cellsT pi 0 ((k : Int) + 1)) ∧ w'.cell? ⟨bq, 0, none⟩ = some (val' 2)) 10 2 [0, 1, 2, 3, 4, 5, 6, 7] (by kernel_rfl) (by kernel_rfl) D0.out ?_
                simp only [List.filterMap_cons, List.filterMap_nil, List.getElem?_toArray, List.getElem?_cons_zero, List.getElem?_cons_succ]
                show wpQuiet _ _ _ _ [_, _, _, _, _, _, _, _] _
                iterate 1 (go_big_quiet_step ((intros; rfl)))
                refine q_cell 3 _ _ (.int .i64 0) rfl rfl rfl (fun w h => by simp [go_sem, h]) (fun w h => Blk.cell h.1 1) ?_
                simp only [Act.put, List.setIfInBounds_toArray, List.set_cons_zero, List.set_cons_succ]
                iterate 1 (go_big_quiet_step ((intros; rfl)))
                refine q_cell 3 _ _ (.int .i64 0) rfl rfl rfl (fun w h => by simp [go_sem, h]) (fun w h => Blk.cell h.1 1) ?_
                simp only [Act.put, List.setIfInBounds_toArray, List.set_cons_zero, List.set_cons_succ]
                iterate 1 (go_big_quiet_step ((intros; rfl)))
                refine q_cell 31 _ _ (val' 2) rfl rfl rfl (fun w h => by simp [go_sem, h]) (fun w h => h.2) ?_
                simp only [Act.put, List.setIfInBounds_toArray, List.set_cons_zero, List.set_cons_succ]
                iterate 1 (go_big_quiet_step ((intros; rfl)))
                refine q_cell 3 _ _ (.int .i64 pi) rfl rfl rfl (fun w h => by simp [go_sem, h]) (fun w h => Blk.cell h.1 0) ?_
                simp only [Act.put, List.setIfInBounds_toArray, List.set_cons_zero, List.set_cons_succ]
                refine wpQuiet_nil ?_
                refine headF_one (i := 8) (by kernel_rfl) (by omega) ?_
                refine wpOp_at rfl rfl (wp_buildSlice_one 31 3 j0 (.tmp 99) _ (.int .i64 pi) rfl rfl Try.underlying31 hj0 hz0 hz1 rfl rfl ⟨⟨D0.out.1.alloc _, Lib.cell?_alloc_some _ D0.out.2⟩, ?_⟩)
                refine headF_one (i := 9) (by kernel_rfl) (by omega) ?_
                refine wpOp_at rfl rfl (wp_append_src _ (.tmp 97) (.tmp 100) _ rfl (bq + 1) 3 j0 _ 1 8 Try.underlying31 hj0 hz0 hz1 hz2 rfl Nat.one_pos (val' 2) (lst' 2).length ((lst' 2).map (Value.int .i64)) rfl ((O4.out.alloc _).row 2) (some ⟨W.drew.heap.size, 0, none⟩) 1 1 [.int .i64 pi] rfl rfl (src_int W.drew pi).1 (src_int W.drew pi).2 (by unfold maxLen; omega) (by omega) (O4.out.alloc _).lt ?_)
                intro v5 w5 ho5 hg5 ha5
                obtain ⟨a5, c5, rfl⟩ := owns_slice ho5
                obtain ⟨P5, K5, X5⟩ := O4.out.app (j := 2) (Ls := [pi]) (by omega) ((Kept.refl _ _).alloc (.cells #[.int .i64 pi] 3)) (by rw [List.length_append, List.map_append]; exact ho5) hg5 ha5
                have hst : arrOf bp bq 2 = ⟨bq, 0, none⟩ := rfl
                rw [hst] at P5 K5
                have P6 : Hid (Ord w (w5.setCell ⟨bq, 0, none⟩ (.slice a5 ((lst' 2).length + 1) c5)) b m d S7 F7 V7 RF5 RV5 bl st bp bq (upd val' 2 (.slice a5 ((lst' 2).length + 1) c5)) (upd lst' 2 (lst' 2 ++ [pi]))) := Lib.hid P5
                have z0 : w5.cell? ⟨bq, 0, none⟩ = some (val' 2) := (O4.out.ready (j := 2) (by omega) ((Kept.refl _ _).alloc _) hg5).1
                have z1 : w5.frozen? ⟨bq, 0, none⟩ = false := (O4.out.ready (j := 2) (by omega) ((Kept.refl _ _).alloc _) hg5).2
                have A6 : Hid (AAt (w5.setCell ⟨bq, 0, none⟩ (.slice a5 ((lst' 2).length + 1) c5)) (XO m bp bq (upd val' 2 (.slice a5 ((lst' 2).length + 1) c5))) (some ⟨ab, ao, none⟩) ((k : Int) + 1) out) := Lib.hid (((A4.out.other (T := fun i => XO m bp bq val' i ∨ XO m bp bq (upd val' 2 (.slice a5 ((lst' 2).length + 1) c5)) i) (fun i hi e => e.elim id (X5 i hi))).kept K5 (fun i _ e => .inl e)).other (fun i _ e => .inr e))
                have BX : Hid (Blk (w5.setCell ⟨bq, 0, none⟩ (.slice a5 ((lst' 2).length + 1) c5)) zz 51 (cellsT pi 0 ((k : Int) + 1))) := Lib.hid (Blk.kept (w := W.drew) D0.out.1 K5 NX.out)
                have BX5 : Blk w5 zz 51 (cellsT pi 0 ((k : Int) + 1)) := Blk.grown (w := W.drew.alloc (.cells #[.int .i64 pi] 3)) (D0.out.1.alloc _) hg5 (fun e => NX.out (.inr (.inr (.inr ⟨2, e.symm⟩))))
                refine ⟨⟨BX5, z0⟩, ?_⟩
                clear ho5 hg5 ha5 O4 D0 P5 K5 X5 BX5 hst A4 NX
                show Region.seqB _ _ _ _ _ = true ∧ _
                refine ⟨by kernel_rfl, ?_⟩
                simp only [Act.put, List.getElem_toArray, List.getElem_cons_zero, List.getElem_cons_succ, List.setIfInBounds_toArray, List.set_cons_zero, List.set_cons_succ, List.drop_succ_cons, List.drop_zero]
                go_wp2_with fail
                refine NoPanic.normal ?_
                generalize w5.setCell ⟨bq, 0, none⟩ (.slice a5 ((lst' 2).length + 1) c5) = w6 at *
                have y2 : w6.cell? ⟨zz, 2, none⟩ = some (.int .i64 ((k : Int) + 1)) := BX.out.cell 2
                clear z0 z1 BX
                have f0 := fl_succ hp 0
                have f1 := fl_succ hp 1
                have HS6 : Hid (((upd lst' 2 (lst' 2 ++ [pi])) 0 = lst2 0 ∧ (upd lst' 2 (lst' 2 ++ [pi])) 1 = lst2 1 ∧ (upd lst' 2 (lst' 2 ++ [pi])) 2 = lst2 2 ++ fl 0 (out.take (i + 1)) ∧ (upd lst' 2 (lst' 2 ++ [pi])) 3 = lst2 3 ++ fl 1 (out.take (i + 1))) ∧ ((upd lst' 2 (lst' 2 ++ [pi])) 0).length ≤ 40000 ∧ ((upd lst' 2 (lst' 2 ++ [pi])) 1).length ≤ 40000 ∧ ((upd lst' 2 (lst' 2 ++ [pi])) 2).length ≤ k * 1000 + (i + 1) ∧ ((upd lst' 2 (lst' 2 ++ [pi])) 3).length ≤ k * 1000 + (i + 1)) := Lib.hid (by
                  obtain ⟨⟨g0, g1, g2, g3⟩, g4, g5, g6, g7⟩ := HS.out
                  simp at f0 f1
                  simp only [upd]
                  refine ⟨⟨g0, g1, ?_, ?_⟩, g4, g5, ?_, ?_⟩
                  · simp [f0, g2]
                  · simp [f1, g3]
                  · simp; omega
                  · simp; omega)
                clear f0 f1 HS hp
                go_wp2_with fail
                go_roundw
                case rel => exact ⟨i + 1, (k : Int) + 1, _, _, by omega, by go_num, rfl, by omega, by omega, P6, HS6, A6⟩
                case measure => simp [intOf]; omega
              · have R1 := Lib.hid r1
                clear r1
                have D0 : Hid (Blk (wr.alloc (.cells (cellsT pi 1 ((k : Int) + 1)) 51)).drew wr.heap.size 51 (cellsT pi 1 ((k : Int) + 1)) ∧ (wr.alloc (.cells (cellsT pi 1 ((k : Int) + 1)) 51)).drew.cell? ⟨bq, 1, none⟩ = some (val' 3)) := Lib.hid ⟨Blk.drew (Blk.new wr _ _), ((OI.out.alloc _).drewN 1).2.cells.2.2.2.1⟩
                have O4 : Hid (Ord w (wr.alloc (.cells (cellsT pi 1 ((k : Int) + 1)) 51)).drew b m d S7 F7 V7 RF5 RV5 bl st bp bq val' lst') := Lib.hid ((OI.out.alloc _).drewN 1)
                have NX : Hid (¬ XO m bp bq val' wr.heap.size) := Lib.hid (OI.out.box _ (Nat.le_refl _))
                have A4 : Hid (AAt (wr.alloc (.cells (cellsT pi 1 ((k : Int) + 1)) 51)).drew (XO m bp bq val') (some ⟨ab, ao, none⟩) ((k : Int) + 1) out) := Lib.hid ((AI.out.below ((Below.refl _ _).alloc (Nat.le_refl _) _)).drewN 1)
                have y1 : (wr.alloc (.cells (cellsT pi 1 ((k : Int) + 1)) 51)).cell? ⟨wr.heap.size, 1, none⟩ = some (.int .i64 1) := (Blk.new wr _ (cellsT pi 1 ((k : Int) + 1))).cell 1
                have y2 : (wr.alloc (.cells (cellsT pi 1 ((k : Int) + 1)) 51)).cell? ⟨wr.heap.size, 2, none⟩ = some (.int .i64 ((k : Int) + 1)) := (Blk.new wr _ (cellsT pi 1 ((k : Int) + 1))).cell 2
                have hl2 : (lst' 3).length ≤ 50000 := by have := (HS.out).2.2.2.2; omega
                clear OI AI
                go_wp2_with (first
                  | (refine wpList_load_mid rfl 51 _ rfl ab (ao + i * 3) rfl (rowT pi 1 ((k : Int) + 1)) _ R1.out Try.underlying51 rfl infoAs ?_)
                  | (refine wpList_store_row rfl _ _ _ rfl wr.heap.size (cellsT pi 1 ((k : Int) + 1)) rfl rfl 51 _ (heap_alloc_new wr _) infoAs rfl (cellsT_one _ _ _) ?_; rw [World.setRow_alloc_new]))
                clear y1 y2
                generalize wr.alloc (.cells (cellsT pi 1 ((k : Int) + 1)) 51) = W at *
                generalize wr.heap.size = zz at *
                refine wp_region_first (fun w' => Blk w' zz 51 (cellsT pi 1 ((k : Int) + 1)) ∧ w'.cell? ⟨bq, 1, none⟩ = some (val' 3)) 10 2 [0, 1, 2, 3, 4, 5, 6, 7] (by kernel_rfl) (by kernel_rfl) D0.out ?_
                simp only [List.filterMap_cons, List.filterMap_nil, List.getElem?_toArray, List.getElem?_cons_zero, List.getElem?_cons_succ]
                show wpQuiet _ _ _ _ [_, _, _, _, _, _, _, _] _
                iterate 1 (go_big_quiet_step ((intros; rfl)))
                refine q_cell 3 _ _ (.int .i64 1) rfl rfl rfl (fun w h => by simp [go_sem, h]) (fun w h => Blk.cell h.1 1) ?_
                simp only [Act.put, List.setIfInBounds_toArray, List.set_cons_zero, List.set_cons_succ]
                iterate 1 (go_big_quiet_step ((intros; rfl)))
                refine q_cell 3 _ _ (.int .i64 1) rfl rfl rfl (fun w h => by simp [go_sem, h]) (fun w h => Blk.cell h.1 1) ?_
                simp only [Act.put, List.setIfInBounds_toArray, List.set_cons_zero, List.set_cons_succ]
                iterate 1 (go_big_quiet_step ((intros; rfl)))
                refine q_cell 31 _ _ (val' 3) rfl rfl rfl (fun w h => by simp [go_sem, h]) (fun w h => h.2) ?_
                simp only [Act.put, List.setIfInBounds_toArray, List.set_cons_zero, List.set_cons_succ]
                iterate 1 (go_big_quiet_step ((intros; rfl)))
                refine q_cell 3 _ _ (.int .i64 pi) rfl rfl rfl (fun w h => by simp [go_sem, h]) (fun w h => Blk.cell h.1 0) ?_
                simp only [Act.put, List.setIfInBounds_toArray, List.set_cons_zero, List.set_cons_succ]
                refine wpQuiet_nil ?_
                refine headF_one (i := 8) (by kernel_rfl) (by omega) ?_
                refine wpOp_at rfl rfl (wp_buildSlice_one 31 3 j0 (.tmp 99) _ (.int .i64 pi) rfl rfl Try.underlying31 hj0 hz0 hz1 rfl rfl ⟨⟨D0.out.1.alloc _, Lib.cell?_alloc_some _ D0.out.2⟩, ?_⟩)
                refine headF_one (i := 9) (by kernel_rfl) (by omega) ?_
                refine wpOp_at rfl rfl (wp_append_src _ (.tmp 97) (.tmp 100) _ rfl (bq + 1) 3 j0 _ 1 8 Try.underlying31 hj0 hz0 hz1 hz2 rfl Nat.one_pos (val' 3) (lst' 3).length ((lst' 3).map (Value.int .i64)) rfl ((O4.out.alloc _).row 3) (some ⟨W.drew.heap.size, 0, none⟩) 1 1 [.int .i64 pi] rfl rfl (src_int W.drew pi).1 (src_int W.drew pi).2 (by unfold maxLen; omega) (by omega) (O4.out.alloc _).lt ?_)
                intro v5 w5 ho5 hg5 ha5
                obtain ⟨a5, c5, rfl⟩ := owns_slice ho5
                obtain ⟨P5, K5, X5⟩ := O4.out.app (j := 3) (Ls := [pi]) (by omega) ((Kept.refl _ _).alloc (.cells #[.int .i64 pi] 3)) (by rw [List.length_append, List.map_append]; exact ho5) hg5 ha5
                have hst : arrOf bp bq 3 = ⟨bq, 1, none⟩ := rfl
                rw [hst] at P5 K5
                have P6 : Hid (Ord w (w5.setCell ⟨bq, 1, none⟩ (.slice a5 ((lst' 3).length + 1) c5)) b m d S7 F7 V7 RF5 RV5 bl st bp bq (upd val' 3 (.slice a5 ((lst' 3).length + 1) c5)) (upd lst' 3 (lst' 3 ++ [pi]))) := Lib.hid P5
                have z0 : w5.cell? ⟨bq, 1, none⟩ = some (val' 3) := (O4.out.ready (j := 3) (by omega) ((Kept.refl _ _).alloc _) hg5).1
                have z1 : w5.frozen? ⟨bq, 1, none⟩ = false := (O4.out.ready (j := 3) (by omega) ((Kept.refl _ _).alloc _) hg5).2
                have A6 : Hid (AAt (w5.setCell ⟨bq, 1, none⟩ (.slice a5 ((lst' 3).length + 1) c5)) (XO m bp bq (upd val' 3 (.slice a5 ((lst' 3).length + 1) c5))) (some ⟨ab, ao, none⟩) ((k : Int) + 1) out) := Lib.hid (((A4.out.other (T := fun i => XO m bp bq val' i ∨ XO m bp bq (upd val' 3 (.slice a5 ((lst' 3).length + 1) c5)) i) (fun i hi e => e.elim id (X5 i hi))).kept K5 (fun i _ e => .inl e)).other (fun i _ e => .inr e))
                have BX : Hid (Blk (w5.setCell ⟨bq, 1, none⟩ (.slice a5 ((lst' 3).length + 1) c5)) zz 51 (cellsT pi 1 ((k : Int) + 1))) := Lib.hid (Blk.kept (w := W.drew) D0.out.1 K5 NX.out)
                have BX5 : Blk w5 zz 51 (cellsT pi 1 ((k : Int) + 1)) := Blk.grown (w := W.drew.alloc (.cells #[.int .i64 pi] 3)) (D0.out.1.alloc _) hg5 (fun e => NX.out (.inr (.inr (.inr ⟨3, e.symm⟩))))
                refine ⟨⟨BX5, z0⟩, ?_⟩
                clear ho5 hg5 ha5 O4 D0 P5 K5 X5 BX5 hst A4 NX
                show Region.seqB _ _ _ _ _ = true ∧ _
                refine ⟨by kernel_rfl, ?_⟩
                simp only [Act.put, List.getElem_toArray, List.getElem_cons_zero, List.getElem_cons_succ, List.setIfInBounds_toArray, List.set_cons_zero, List.set_cons_succ, List.drop_succ_cons, List.drop_zero]
                go_wp2_with fail
                refine NoPanic.normal ?_
                generalize w5.setCell ⟨bq, 1, none⟩ (.slice a5 ((lst' 3).length + 1) c5) = w6 at *
                have y2 : w6.cell? ⟨zz, 2, none⟩ = some (.int .i64 ((k : Int) + 1)) := BX.out.cell 2
                clear z0 z1 BX
                have f0 := fl_succ hp 0
                have f1 := fl_succ hp 1
                have HS6 : Hid (((upd lst' 3 (lst' 3 ++ [pi])) 0 = lst2 0 ∧ (upd lst' 3 (lst' 3 ++ [pi])) 1 = lst2 1 ∧ (upd lst' 3 (lst' 3 ++ [pi])) 2 = lst2 2 ++ fl 0 (out.take (i + 1)) ∧ (upd lst' 3 (lst' 3 ++ [pi])) 3 = lst2 3 ++ fl 1 (out.take (i + 1))) ∧ ((upd lst' 3 (lst' 3 ++ [pi])) 0).length ≤ 40000 ∧ ((upd lst' 3 (lst' 3 ++ [pi])) 1).length ≤ 40000 ∧ ((upd lst' 3 (lst' 3 ++ [pi])) 2).length ≤ k * 1000 + (i + 1) ∧ ((upd lst' 3 (lst' 3 ++ [pi])) 3).length ≤ k * 1000 + (i + 1)) := Lib.hid (by
                  obtain ⟨⟨g0, g1, g2, g3⟩, g4, g5, g6, g7⟩ := HS.out
                  simp at f0 f1
                  simp only [upd]
                  refine ⟨⟨g0, g1, ?_, ?_⟩, g4, g5, ?_, ?_⟩
                  · simp [f0, g2]
                  · simp [f1, g3]
                  · simp; omega
                  · simp; omega)
                clear f0 f1 HS hp
                go_wp2_with fail
                go_roundw
                case rel => exact ⟨i + 1, (k : Int) + 1, _, _, by omega, by go_num, rfl, by omega, by omega, P6, HS6, A6⟩
                case measure => simp [intOf]; omega
            · obtain rfl : i = no := by omega
              clear hin
              have hin : ¬ i < i := by omega
              have hall : out.take i = out := List.take_of_length_le (by rw [HNO.out]; exact Nat.le_refl _)
              rw [hall] at HS
              have HF7 : Hid (OInv lst' F7 V7 ∧ (lst' 0).length ≤ (k + 1) * 20 ∧ (lst' 1).length ≤ (k + 1) * 20 ∧ (lst' 2).length ≤ (k + 1) * 1000 ∧ (lst' 3).length ≤ (k + 1) * 1000) := Lib.hid (by
                obtain ⟨⟨g0, g1, g2, g3⟩, g4, g5, g6, g7⟩ := HS.out
                refine ⟨HOI.out lst' g0 g1 g2 g3, ?_, ?_, ?_, ?_⟩
                · rw [g0]; exact HLE.out.1
                · rw [g1]; exact HLE.out.2.1
                · omega
                · omega)
              clear hall HS AI HOI HLE HBO
              go_wp2_with fail
              go_roundw
              case rel => exact ⟨k + 1, S7, F7, V7, RF5, RV5, bl, st, val', lst', l', by omega, by go_num, rfl, hl1', by omega, OI, HF7⟩
              case measure => simp [intOf]; omega
        · obtain rfl : k = len0 := by omega
          clear hkl HF20
          have hkl : ¬ k < k := by omega
          have U0 := Lib.hid HL.out
          have HLI := Lib.hid HI.out
          clear HL HI
          obtain ⟨wo, hwo⟩ : ∃ wo, wo = wr := ⟨_, rfl⟩
          subst hwo
          go_wp2_with fail
          refine wp_loop_rounds 3 ?_
          rw [rounds_succ]
          have x0 : wo.cell? ⟨bp, 0, none⟩ = some (val 0) := U0.out.2.cells.1
          have x1 : wo.cell? ⟨bq, 0, none⟩ = some (val 2) := U0.out.2.cells.2.2.1
          obtain ⟨pa, pc, pe, hpl, hpc, hpm, pI⟩ := ints_of_owns (S := fun _ => False) (U0.out.row 0) (fun _ _ h => h)
          obtain ⟨qa, qc, qe, hql, hqc, hqm, qI⟩ := ints_of_owns (S := fun _ => False) (U0.out.row 2) (fun _ _ h => h)
          rw [pe] at x0
          rw [qe] at x1
          obtain ⟨pn, hpn⟩ : ∃ pn, (lst 0).length = pn := ⟨_, rfl⟩
          obtain ⟨qn, hqn⟩ : ∃ qn, (lst 2).length = qn := ⟨_, rfl⟩
          have HPN := Lib.hid hpn
          have HQN := Lib.hid hqn
          have hb1 : pn ≤ 800 := by have := HLI.out.2; omega
          have hb2 : qn ≤ 40000 := by have := HLI.out.2; omega
          rw [hpn] at x0 hpc
          rw [hqn] at x1
          have PI := Lib.hid pI
          have QI := Lib.hid qI
          unfold maxLen at hpm
          clear pe qe hpl hql hqc hqm hpn hqn pI qI
          by_cases h500 : (500 : Int) < (pn : Int)
          · go_wp2_with fail
            refine (alive_any _).mono ?_
            rintro e w5 ⟨rfl, hb⟩
            have HB := Lib.hid (U0.out.1.below hb).bel
            clear hb x0 x1
            go_wp2_with fail
            try rw [Exit.noGoto_ret]
            go_ret
            exact ⟨rfl, HB.out⟩
          have hpq : lst 0 = lst 2 ++ F := HLI.out.1.1 (by have := HPN.out; omega)
          have hqp : qn ≤ pn := by have := congrArg List.length hpq; have := HPN.out; have := HQN.out; simp at *; omega
          have HE : Hid (∀ q, Calls Try.prog 18 #[.slice qa qn qc, .slice pa qn pc] (wo.drewN q) fun e w' => e = .returned (.bool true) ∧ ∃ m, w' = wo.drewN m) := Lib.hid (fun q => by
            have ht : (lst 0).take qn = lst 2 := by rw [hpq, ← HQN.out, List.take_append_of_le_length (Nat.le_refl _), List.take_of_length_le (Nat.le_refl _)]
            have h1 : IntsAt (wo.drewN q) (fun _ => False) pa (lst 2) := by rw [← ht]; exact PI.out.take (by rw [HPN.out]; exact hqp)
            refine (equal_same (n := qn) (c := qc) (d := pc) (QI.out.drewN q) h1 HQN.out (by omega)).mono ?_
            rintro e w' ⟨he, m, hm⟩
            exact ⟨he, q + m, by rw [hm, World.drewN_drewN]⟩)
          clear hpq PI QI HPN HQN
          have g1 : ¬ (pn : Int) < (qn : Int) := by omega
          have g2 : decide (pn < qn) = false := by simp; omega
          have g3 : decide ((pn : Int) < (qn : Int)) = false := by simp; omega
          go_wp2_with fail
          go_quiet ((go_at_call 18; exact HE.out _))
          have U1 : Hid (Ord w (wo.drewN nq) b m d S F V RF RV B Sp bp bq val lst) := Lib.hid (U0.out.drewN nq)
          generalize wo.drewN nq = wp at *
          clear HE g1 g2 g3 h500 x0 x1 hqp hpc hpm hb1 hb2 U0
          go_wp2_with fail
          rw [rounds_succ]
          have x0 : wp.cell? ⟨bp, 1, none⟩ = some (val 1) := U1.out.2.cells.2.1
          have x1 : wp.cell? ⟨bq, 1, none⟩ = some (val 3) := U1.out.2.cells.2.2.2.1
          obtain ⟨pa, pc, pe, hpl, hpc, hpm, pI⟩ := ints_of_owns (S := fun _ => False) (U1.out.row 1) (fun _ _ h => h)
          obtain ⟨qa, qc, qe, hql, hqc, hqm, qI⟩ := ints_of_owns (S := fun _ => False) (U1.out.row 3) (fun _ _ h => h)
          rw [pe] at x0
          rw [qe] at x1
          obtain ⟨pn, hpn⟩ : ∃ pn, (lst 1).length = pn := ⟨_, rfl⟩
          obtain ⟨qn, hqn⟩ : ∃ qn, (lst 3).length = qn := ⟨_, rfl⟩
          have HPN := Lib.hid hpn
          have HQN := Lib.hid hqn
          have hb1 : pn ≤ 800 := by have := HLI.out.2; omega
          have hb2 : qn ≤ 40000 := by have := HLI.out.2; omega
          rw [hpn] at x0 hpc
          rw [hqn] at x1
          have PI := Lib.hid pI
          have QI := Lib.hid qI
          unfold maxLen at hpm
          clear pe qe hpl hql hqc hqm hpn hqn pI qI
          by_cases h500 : (500 : Int) < (pn : Int)
          · go_wp2_with fail
            refine (alive_any _).mono ?_
            rintro e w5 ⟨rfl, hb⟩
            have HB := Lib.hid (U1.out.1.below hb).bel
            clear hb x0 x1
            go_wp2_with fail
            try rw [Exit.noGoto_ret]
            go_ret
            exact ⟨rfl, HB.out⟩
          have hpq : lst 1 = lst 3 ++ V := HLI.out.1.2 (by have := HPN.out; omega)
          have hqp : qn ≤ pn := by have := congrArg List.length hpq; have := HPN.out; have := HQN.out; simp at *; omega
          have HE : Hid (∀ q, Calls Try.prog 18 #[.slice qa qn qc, .slice pa qn pc] (wp.drewN q) fun e w' => e = .returned (.bool true) ∧ ∃ m, w' = wp.drewN m) := Lib.hid (fun q => by
            have ht : (lst 1).take qn = lst 3 := by rw [hpq, ← HQN.out, List.take_append_of_le_length (Nat.le_refl _), List.take_of_length_le (Nat.le_refl _)]
            have h1 : IntsAt (wp.drewN q) (fun _ => False) pa (lst 3) := by rw [← ht]; exact PI.out.take (by rw [HPN.out]; exact hqp)
            refine (equal_same (n := qn) (c := qc) (d := pc) (QI.out.drewN q) h1 HQN.out (by omega)).mono ?_
            rintro e w' ⟨he, m, hm⟩
            exact ⟨he, q + m, by rw [hm, World.drewN_drewN]⟩)
          clear hpq PI QI HPN HQN
          have g1 : ¬ (pn : Int) < (qn : Int) := by omega
          have g2 : decide (pn < qn) = false := by simp; omega
          have g3 : decide ((pn : Int) < (qn : Int)) = false := by simp; omega
          go_wp2_with fail
          go_quiet ((go_at_call 18; exact HE.out _))
          have U2 : Hid (Ord w (wp.drewN nq) b m d S F V RF RV B Sp bp bq val lst) := Lib.hid (U1.out.drewN nq)
          generalize wp.drewN nq = wq at *
          clear HE g1 g2 g3 h500 x0 x1 hqp hpc hpm hb1 hb2 U1
          go_wp2_with fail
          rw [rounds_succ]
          go_wp2_with fail
          refine (alive_any _).mono ?_
          rintro e w5 ⟨rfl, hb⟩
          have HB := Lib.hid (U2.out.1.below hb).bel
          clear hb U2
          go_wp2_with fail
          go_ret
          exact ⟨rfl, HB.out⟩
end Go.Proofs.Ytkeclanbebiogaa
