/- The reference's All: insertion. Made by mkrefa.py. -/
import Derived.Test.YtinndmglacfofaaRefS
import Derived.Test.YtinndmglacfofaaIns
import Derived.Deep.CutRange
namespace Go.Proofs.Ytinndmglacfofaa
open Go Go.RowKit Go.Deep
set_option linter.unusedVariables false
set_option linter.unusedSimpArgs false

theorem new_oneC {w w1 : World} {x : Value} {t t2 : TypeId} {row : Option Nat} (hg : ((w.alloc (.cells #[x] t)).alloc (.cells #[] t2)).grownBy w1 row) (hr : row ≠ some w.heap.size) : ∀ j u, [x][j]? = some u → w1.cell? ((⟨w.heap.size, 0, none⟩ : Addr).add j) = some u := fun j u hu => by
  have h1 := cell_alloc_some (.cells #[] t2) (cell_one_new w x t j u hu)
  rw [← h1]
  rw [add_plain]
  exact World.cell?_of_block (hg.block w.heap.size (by simp; omega) (fun e => hr e.symm))
def RefAll (w : World) (L : List Ent) (e : Ending) (w' : World) : Prop :=
  ∃ t v4 v5, Srt t ∧ Stab L t ∧ e = .returned (.tuple #[v4, v5]) ∧ AllR w w' t v4 v5

set_option maxHeartbeats 6400000 in
theorem ref_all (r : Nat) (S : Nat → Prop) (L : List Ent) (w : World) (h : Ref w r S L) (hL : L.length ≤ 10000) :
    Calls Try.prog 17 #[.pointer (some ⟨r, 0, none⟩)] w (RefAll w L) := by
  obtain ⟨se, si, hp, hS⟩ := h
  obtain ⟨ae, ce, rfl, hce, hce2⟩ := owns_int hp.eps
  obtain ⟨ai, ci, rfl, hci, hci2⟩ := owns_int hp.its
  obtain ⟨x0, x1⟩ := hp.cells
  have hrl := hp.own.lt
  have HE := Lib.hid hp.eps
  have HI := Lib.hid hp.its
  obtain ⟨i0, hi0, hz0, hs0, hb0⟩ := int_app
  obtain ⟨q, hq⟩ : ∃ q, L.length = q := ⟨_, rfl⟩
  have HQ := Lib.hid hq
  rw [hq] at x0 x1 hL
  clear hp hS hq hce hci
  have H0 : Hid (Srt [] ∧ Stab (L.take 0) [] ∧ AllR w w [] (.slice none 0 0) (.slice none 0 0)) := Lib.hid ⟨srt_nil, Stab.refl _, World.ownsRow_nil _ _ _ _, World.ownsRow_nil _ _ _ _, Below.refl _ _⟩
  go_enter Try.func17, Try.ntmps17
  go_wp2
  go_loopw [4, 5, 6] (fun s4 s5 s6 wr => ∃ (k : Nat) (t : List Ent), k ≤ q ∧ s6 = .int .i64 k ∧ Hid (Srt t ∧ Stab (L.take k) t ∧ AllR w wr t s4 s5)) (fun _ _ s6 _ => q - (intOf s6).toNat)
  case atStart => exact ⟨0, [], by omega, rfl, H0⟩
  case round =>
    clear H0
    obtain ⟨k, t, hk, rfl, HD⟩ := hrel
    obtain ⟨hso, hst, hd⟩ := HD.out
    have m0 : wr.cell? ⟨r, 0, none⟩ = some (.slice ae q ce) := (hd.below.cell (p := ⟨r, 0, none⟩) hrl).trans x0
    have m1 : wr.cell? ⟨r, 1, none⟩ = some (.slice ai q ci) := (hd.below.cell (p := ⟨r, 1, none⟩) hrl).trans x1
    by_cases hlt : k < q
    · obtain ⟨e, he⟩ : ∃ e, L[k]? = some e := ⟨_, List.getElem?_eq_getElem (by have := HQ.out; omega)⟩
      obtain ⟨g, rfl, e0⟩ := owns_cell HE.out (eps_get he)
      obtain ⟨g1, rfl, e1⟩ := owns_cell HI.out (its_get he)
      have hl0 : g < w.heap.size := (HE.out.lt g rfl).2
      have hl1 : g1 < w.heap.size := (HI.out.lt g1 rfl).2
      have k0 : wr.cell? ⟨g, k, none⟩ = some (.int .i64 e.1) := (hd.below.cell (p := ⟨g, k, none⟩) hl0).trans e0
      have htl : t.length = k := by rw [← hst.len, List.length_take, HQ.out]; omega
      have HT : Hid (L.take (k + 1) = L.take k ++ [e]) := Lib.hid (ent_snoc he)
      have HTL := Lib.hid htl
      obtain ⟨a4, c4, rfl, hc4, hc42⟩ := owns_int hd.e
      obtain ⟨a5, c5, rfl, hc5, hc52⟩ := owns_int hd.i
      rw [htl] at hc4 hc5
      have HSO := Lib.hid hso
      have HST := Lib.hid hst
      have HR := Lib.hid hd
      have hws := hd.below.size
      rw [htl] at HD HR ⊢
      have hk1 : ¬ (k : Int) < 0 := by omega
      have hk2 : ¬ (q : Int) ≤ (k : Int) := by omega
      have hk3 : (k : Int) < (q : Int) := by omega
      clear he hso hst hd htl HD
      obtain ⟨W1, hW1⟩ : ∃ W1, W1 = wr := ⟨_, rfl⟩
      subst hW1
      go_wp2
      go_loopw [7] (fun s7 wx => ∃ t1 t2 : List Ent, s7 = .int .i64 t1.length ∧ Hid (Ins t1 t2 e t) ∧ Hid (Below W1.heap.size W1 wx)) (fun s7 _ => (intOf s7).toNat)
      case atStart => exact ⟨t, [], by rw [HTL.out], Lib.hid ⟨by simp, fun x hx => by simp at hx⟩, Lib.hid (Below.refl _ _)⟩
      case round =>
        obtain ⟨t1, t2, rfl, HIN, HB⟩ := hrel
        obtain ⟨p, hp⟩ : ∃ p, t1.length = p := ⟨_, rfl⟩
        have HPL := Lib.hid hp
        have hpk : p ≤ k := by have := HIN.out.eq; have h2 := HTL.out; rw [this, List.length_append] at h2; omega
        rw [hp]
        have HBB := Lib.hid (HR.out.below.trans (HB.out.mono hws))
        have n0 : wr.cell? ⟨r, 0, none⟩ = some (.slice (some ⟨g, 0, none⟩) q ce) := (HBB.out.cell (p := ⟨r, 0, none⟩) hrl).trans x0
        have j0 : wr.cell? ⟨g, k, none⟩ = some (.int .i64 e.1) := (HBB.out.cell (p := ⟨g, k, none⟩) hl0).trans e0
        clear hp m0 m1 k0
        go_upto_region 7 with (fail)
        go_cut [35] from 19 to 35 (fun s35 wx => ∃ b : Bool, s35 = .bool b ∧ Hid ((b = true → ∃ t0 y, t1 = t0 ++ [y] ∧ e.1 < y.1) ∧ (b = false → ∀ x ∈ t1, x.1 ≤ e.1)) ∧ Hid (Below W1.heap.size W1 wx))
        case first =>
          by_cases hp0 : p = 0
          · subst hp0
            have hnil : t1 = [] := List.eq_nil_of_length_eq_zero HPL.out
            have HNIL := Lib.hid hnil
            clear hnil
            go_quiet (fail)
            go_wp2_with fail
            go_meet
            exact ⟨false, rfl, Lib.hid ⟨fun h => by simp at h, fun _ x hx => by rw [HNIL.out] at hx; simp at hx⟩, Lib.hid (below_drewN HB.out _)⟩
          · obtain ⟨p0, rfl⟩ : ∃ p0, p = p0 + 1 := ⟨p - 1, by omega⟩
            obtain ⟨t0, y, ht⟩ : ∃ t0 y, t1 = t0 ++ [y] := ⟨t1.dropLast, t1.getLast (by intro h; rw [h] at HPL; exact absurd HPL.out (by simp)), (List.dropLast_concat_getLast _).symm⟩
            have HT1 := Lib.hid ht
            have hy : t[p0]? = some y := by
              have h0 := HPL.out
              rw [ht, List.length_append, List.length_singleton] at h0
              rw [HIN.out.eq, ht, List.append_assoc, List.getElem?_append_right (by omega), show p0 - t0.length = 0 by omega]
              rfl
            obtain ⟨g4, rfl, y0⟩ := owns_cell HR.out.e (eps_get hy)
            have hg4 := (HR.out.e.lt g4 rfl).2
            have yy : wr.cell? ⟨g4, p0, none⟩ = some (.int .i64 y.1) := (HB.out.cell (p := ⟨g4, p0, none⟩) hg4).trans y0
            have q1 : (0 : Int) < (p0 : Int) + 1 := by omega
            have q2 : ¬ (p0 : Int) < 0 := by omega
            have q3 : (p0 : Int) < (k : Int) := by omega
            have q4 : ¬ (k : Int) ≤ (p0 : Int) := by omega
            obtain ⟨b, hb⟩ : ∃ b, decide (e.1 < y.1) = b := ⟨_, rfl⟩
            have HBE := Lib.hid hb
            clear ht hy y0 hp0
            go_quiet (fail)
            go_wp2_with fail
            go_meet
            exact ⟨b, by simp [hb], Lib.hid ⟨fun h => ⟨t0, y, HT1.out, by have := HBE.out; rw [h] at this; simpa using this⟩, fun h => by
              have h2 := HIN.out
              rw [HT1.out] at h2 ⊢
              exact h2.stop HSO.out (by have := HBE.out; rw [h] at this; simpa using this)⟩, Lib.hid (below_drewN HB.out _)⟩
        case rest =>
          obtain ⟨b, rfl, HBR, HBX⟩ := hcut
          cases b with
          | true =>
            obtain ⟨t0, y, ht, hy⟩ := HBR.out.1 rfl
            have hpl := HPL.out
            rw [ht, List.length_append, List.length_singleton] at hpl
            have hp1 : (0 : Int) < (p : Int) := by omega
            have HST2 : Hid (Ins t0 (y :: t2) e t) := Lib.hid (by have h2 := HIN.out; rw [ht] at h2; exact h2.step hy)
            clear ht
            go_wp2
            go_roundw
            case rel => exact ⟨t0, y :: t2, by go_num, HST2, HBX⟩
            case measure => simp [intOf]; omega
          | false =>
            obtain ⟨W, hW⟩ : ∃ W, W = wc := ⟨_, rfl⟩
            subst hW
            have hle := HBR.out.2 rfl
            obtain ⟨f1, f2⟩ := HIN.out.done HSO.out hle
            have HF1 := Lib.hid f1
            have HF2 := Lib.hid f2
            have HKW := Lib.hid (HR.out.below.trans (HBX.out.mono hws))
            have HW : Hid (∀ i, i < w.heap.size → i < W.heap.size) := Lib.hid (fun i hi => Nat.lt_of_lt_of_le hi HKW.out.size)
            have n0 : W.cell? ⟨r, 0, none⟩ = some (.slice (some ⟨g, 0, none⟩) q ce) := (HKW.out.cell (p := ⟨r, 0, none⟩) hrl).trans x0
            have j0 : W.cell? ⟨g, k, none⟩ = some (.int .i64 e.1) := (HKW.out.cell (p := ⟨g, k, none⟩) hl0).trans e0
            have hl12 : t1.length + t2.length = k := by have := HIN.out.eq; have h2 := HTL.out; rw [this, List.length_append] at h2; exact h2
            have hpl := HPL.out
            have HN1 : Hid ((epsOf t1).length = p * 1) := Lib.hid (by simp [epsOf, hpl])
            have HN2 : Hid ((epsOf t2).length = (k - p) * 1) := Lib.hid (by simp [epsOf]; omega)
            have HM1 : Hid ((itsOf t1).length = p * 1) := Lib.hid (by simp [itsOf, hpl])
            have HM2 : Hid ((itsOf t2).length = (k - p) * 1) := Lib.hid (by simp [itsOf]; omega)
            have HRW : Hid (AllR w W t (.slice a4 k c4) (.slice a5 k c5)) := Lib.hid (HR.out.step HBX.out)
            have hre := HRW.out.e
            have hri := HRW.out.i
            rw [HTL.out, HIN.out.eq, eps_app] at hre
            rw [HTL.out, HIN.out.eq, its_app] at hri
            have HE4 := Lib.hid hre
            have HI5 := Lib.hid hri
            have HLO : Hid (∀ w', Below W.heap.size W w' → 0 < p → ∃ ad, loA a4 c4 = some ad ∧ ∀ j u, (epsOf t1)[j]? = some u → w'.cell? (ad.add j) = some u) := Lib.hid (fun w' hb => lo_src (owns_same HE4.out fun i hi => hb.block i (HE4.out.lt i hi).2) (by rw [HN1.out]; omega) hpk)
            have HHI : Hid (∀ w', Below W.heap.size W w' → 0 < k - p → ∃ ad, hiA a4 p c4 = some ad ∧ ∀ j u, (epsOf t2)[j]? = some u → w'.cell? (ad.add j) = some u) := Lib.hid (fun w' hb => hi_src (owns_same HE4.out fun i hi => hb.block i (HE4.out.lt i hi).2) (by rw [HN1.out]; omega))
            have hpc0 : p ≤ c4 := by omega
            have hpc1 : p ≤ c5 := by omega
            clear hre hri f1 f2 hle hpl
            go_wp2
            go_cut [4] from 38 to 55 (fun s4 wx => Hid (wx.ownsRow W.heap.size 3 1 s4 (k + 1) (epsOf (t1 ++ e :: t2))) ∧ Hid (Below W.heap.size W wx))
            case first =>
              refine wp_region_first (fun w' => Below W.heap.size W w') 18 5 [1, 2, 3, 5, 6, 7, 8, 9, 10, 11, 14, 15, 16] (by kernel_rfl) (by kernel_rfl) ((Below.refl _ W).drew) ?_
              simp only [List.filterMap_cons, List.filterMap_nil, List.getElem?_toArray, List.getElem?_cons_zero, List.getElem?_cons_succ]
              show wpQuiet _ _ _ _ [_, _, _, _, _, _, _, _, _, _, _, _, _] _
              iterate 2 (go_big_quiet_step ((intros; rfl)))
              refine q_val (.slice (loA a4 c4) p c4) rfl (fun w => (exec_lo rfl rfl rfl hpc0 w).trans (by rw [sliced_lo])) ?_
              simp only [Act.put, List.setIfInBounds_toArray, List.set_cons_zero, List.set_cons_succ]
              iterate 3 (go_big_quiet_step ((intros; rfl)))
              refine q_cell 27 _ _ (.slice (some ⟨g, 0, none⟩) q ce) rfl rfl rfl (fun w h => by simp [go_sem, h]) (fun w h => (h.cell (p := ⟨r, 0, none⟩) (HW.out r hrl)).trans n0) ?_
              simp only [Act.put, List.setIfInBounds_toArray, List.set_cons_zero, List.set_cons_succ]
              iterate 2 (go_big_quiet_step ((intros; rfl)))
              refine q_cell 3 _ _ (.int .i64 e.1) rfl rfl rfl (fun w h => by simp [go_sem, h]) (fun w h => (h.cell (p := ⟨g, k, none⟩) (HW.out g hl0)).trans j0) ?_
              simp only [Act.put, List.setIfInBounds_toArray, List.set_cons_zero, List.set_cons_succ]
              iterate 2 (go_big_quiet_step ((intros; rfl)))
              refine q_val (.slice (hiA a4 p c4) (k - p) (c4 - p)) rfl (fun w => (exec_hi rfl rfl rfl hpk w).trans (by rw [sliced_hi])) ?_
              simp only [Act.put, List.setIfInBounds_toArray, List.set_cons_zero, List.set_cons_succ]
              refine wpQuiet_nil ?_
              refine headF_two (i := 0) (k := 12) (by kernel_rfl) (by omega) (by omega) ?_ ?_
              · refine wpOp_at rfl rfl (wp_buildSlice_zero 27 3 i0 rfl Try.underlying27 hi0 ⟨(((Below.refl _ W).drew).alloc (Nat.le_refl _) _), ?_⟩)
                refine headF_two (i := 4) (k := 12) (by kernel_rfl) (by omega) (by omega) ?_ ?_
                · refine wpOp_at rfl rfl (wp_append_src _ (.tmp 38) (.tmp 41) 27 rfl W.heap.size 3 i0 _ 1 8 Try.underlying27 hi0 hz0 hs0 hb0 rfl Nat.one_pos (.slice (some ⟨W.heap.size, 0, none⟩) 0 0) 0 [] rfl (owns_empty (Blk.new W.drew _ _) (Nat.le_refl _)) (loA a4 c4) p c4 (epsOf t1) rfl (HN1.out) (HLO.out _ ((((Below.refl _ W).drew).alloc (Nat.le_refl _) _))) (one_ints rfl) (by unfold maxLen; omega) (by omega) (by simp) ?_)
                  intro v1 w1 ho1 hg1 hv1
                  have B1 : Below W.heap.size W w1 := ((((Below.refl _ W).drew).alloc (Nat.le_refl _) _)).grown hg1 (by simp) (fun q hq => by injection hq with hq; have hq : W.heap.size = q := hq; show W.heap.size ≤ q; first | omega | (rw [World.size_alloc] at hq; have hq : W.heap.size + 1 = q := hq; omega))
                  rw [Nat.zero_add, List.nil_append] at ho1
                  refine ⟨B1, ?_⟩
                  refine headF_one (i := 12) (by kernel_rfl) (by omega) ?_
                  refine wpOp_at rfl rfl (wp_buildSlice_one 27 3 i0 (.tmp 49) _ (.int .i64 e.1) rfl rfl Try.underlying27 hi0 hz0 hs0 rfl rfl ⟨B1.alloc B1.size _, ?_⟩)
                  refine headF_one (i := 13) (by kernel_rfl) (by omega) ?_
                  refine wpOp_at rfl rfl (wp_append_src _ (.tmp 42) (.tmp 50) 27 rfl W.heap.size 3 i0 _ 1 8 Try.underlying27 hi0 hz0 hs0 hb0 rfl Nat.one_pos v1 p (epsOf t1) rfl (ho1.alloc _) (some ⟨w1.heap.size, 0, none⟩) 1 1 [.int .i64 e.1] rfl rfl (fun _ => ⟨_, rfl, cell_one_new w1 _ _⟩) (by simp [Value.oneCell']) (by unfold maxLen; omega) (by omega) (by have := B1.size; simp; omega) ?_)
                  intro v2 w2 ho2 hg2 hv2
                  have B2 : Below W.heap.size W w2 := (B1.alloc B1.size _).grown hg2 (by have := B1.size; simp; omega) (fun q hq => (ho1.lt q hq).1)
                  refine ⟨B2, ?_⟩
                  refine headF_one (i := 17) (by kernel_rfl) (by omega) ?_
                  refine wpOp_at rfl rfl (wp_append_src _ (.tmp 51) (.tmp 54) 27 rfl W.heap.size 3 i0 _ 1 8 Try.underlying27 hi0 hz0 hs0 hb0 rfl Nat.one_pos v2 (p + 1) _ rfl ho2 (hiA a4 p c4) (k - p) (c4 - p) (epsOf t2) rfl (HN2.out) (HHI.out _ B2) (one_ints rfl) (by unfold maxLen; omega) (by omega) (B2.size) ?_)
                  intro v3 w3 ho3 hg3 hv3
                  have B3 : Below W.heap.size W w3 := B2.grown hg3 B2.size (fun q hq => (ho2.lt q hq).1)
                  have HZ : Hid (w3.ownsRow W.heap.size 3 1 v3 (k + 1) (epsOf (t1 ++ e :: t2))) := Lib.hid (by
                    have e1 : p + 1 + (k - p) = k + 1 := by omega
                    have e2 : epsOf (t1 ++ e :: t2) = (epsOf t1) ++ [.int .i64 e.1] ++ (epsOf t2) := by simp [epsOf]
                    rw [e2, ← e1]
                    exact ho3)
                  have HB3 := Lib.hid B3
                  refine ⟨B3, ?_⟩
                  show Region.seqB _ _ _ _ _ = true ∧ _
                  refine ⟨by kernel_rfl, ?_⟩
                  simp only [Act.put, List.getElem_toArray, List.getElem_cons_zero, List.getElem_cons_succ, List.setIfInBounds_toArray, List.set_cons_zero, List.set_cons_succ, List.drop_succ_cons, List.drop_zero]
                  clear ho1 hg1 hv1 ho2 hg2 hv2 ho3 hg3 hv3 B1 B2 B3
                  go_wp2
                  refine NoPanic.normal ?_
                  go_wp2_with fail
                  go_meet
                  exact ⟨HZ, HB3⟩
                · refine wpOp_at rfl rfl (wp_buildSlice_one 27 3 i0 (.tmp 49) _ (.int .i64 e.1) rfl rfl Try.underlying27 hi0 hz0 hs0 rfl rfl ⟨((((Below.refl _ W).drew).alloc (Nat.le_refl _) _).alloc (by simp) _), ?_⟩)
                  refine headF_one (i := 4) (by kernel_rfl) (by omega) ?_
                  refine wpOp_at rfl rfl (wp_append_src _ (.tmp 38) (.tmp 41) 27 rfl W.heap.size 3 i0 _ 1 8 Try.underlying27 hi0 hz0 hs0 hb0 rfl Nat.one_pos (.slice (some ⟨W.heap.size, 0, none⟩) 0 0) 0 [] rfl (owns_empty ((Blk.new W.drew _ _).alloc _) (Nat.le_refl _)) (loA a4 c4) p c4 (epsOf t1) rfl (HN1.out) (HLO.out _ (((((Below.refl _ W).drew).alloc (Nat.le_refl _) _).alloc (by simp) _))) (one_ints rfl) (by unfold maxLen; omega) (by omega) (by simp; omega) ?_)
                  intro v1 w1 ho1 hg1 hv1
                  have B1 : Below W.heap.size W w1 := (((((Below.refl _ W).drew).alloc (Nat.le_refl _) _).alloc (by simp) _)).grown hg1 (by simp; omega) (fun q hq => by injection hq with hq; have hq : W.heap.size = q := hq; show W.heap.size ≤ q; first | omega | (rw [World.size_alloc] at hq; have hq : W.heap.size + 1 = q := hq; omega))
                  rw [Nat.zero_add, List.nil_append] at ho1
                  refine ⟨B1, ?_⟩
                  refine headF_one (i := 13) (by kernel_rfl) (by omega) ?_
                  refine wpOp_at rfl rfl (wp_append_src _ (.tmp 42) (.tmp 50) 27 rfl W.heap.size 3 i0 _ 1 8 Try.underlying27 hi0 hz0 hs0 hb0 rfl Nat.one_pos v1 p (epsOf t1) rfl (ho1) (some ⟨(W.drew.alloc (.cells #[] 3)).heap.size, 0, none⟩) 1 1 [.int .i64 e.1] rfl rfl (fun _ => ⟨_, rfl, new_one (w := W.drew.alloc (.cells #[] 3)) hg1 (fun h => by injection h with h; have h : W.heap.size = (W.drew.alloc (.cells #[] 3)).heap.size := h; rw [World.size_alloc] at h; have h : W.heap.size = W.heap.size + 1 := h; omega)⟩) (by simp [Value.oneCell']) (by unfold maxLen; omega) (by omega) (B1.size) ?_)
                  intro v2 w2 ho2 hg2 hv2
                  have B2 : Below W.heap.size W w2 := (B1).grown hg2 (B1.size) (fun q hq => (ho1.lt q hq).1)
                  refine ⟨B2, ?_⟩
                  refine headF_one (i := 17) (by kernel_rfl) (by omega) ?_
                  refine wpOp_at rfl rfl (wp_append_src _ (.tmp 51) (.tmp 54) 27 rfl W.heap.size 3 i0 _ 1 8 Try.underlying27 hi0 hz0 hs0 hb0 rfl Nat.one_pos v2 (p + 1) _ rfl ho2 (hiA a4 p c4) (k - p) (c4 - p) (epsOf t2) rfl (HN2.out) (HHI.out _ B2) (one_ints rfl) (by unfold maxLen; omega) (by omega) (B2.size) ?_)
                  intro v3 w3 ho3 hg3 hv3
                  have B3 : Below W.heap.size W w3 := B2.grown hg3 B2.size (fun q hq => (ho2.lt q hq).1)
                  have HZ : Hid (w3.ownsRow W.heap.size 3 1 v3 (k + 1) (epsOf (t1 ++ e :: t2))) := Lib.hid (by
                    have e1 : p + 1 + (k - p) = k + 1 := by omega
                    have e2 : epsOf (t1 ++ e :: t2) = (epsOf t1) ++ [.int .i64 e.1] ++ (epsOf t2) := by simp [epsOf]
                    rw [e2, ← e1]
                    exact ho3)
                  have HB3 := Lib.hid B3
                  refine ⟨B3, ?_⟩
                  show Region.seqB _ _ _ _ _ = true ∧ _
                  refine ⟨by kernel_rfl, ?_⟩
                  simp only [Act.put, List.getElem_toArray, List.getElem_cons_zero, List.getElem_cons_succ, List.setIfInBounds_toArray, List.set_cons_zero, List.set_cons_succ, List.drop_succ_cons, List.drop_zero]
                  clear ho1 hg1 hv1 ho2 hg2 hv2 ho3 hg3 hv3 B1 B2 B3
                  go_wp2
                  refine NoPanic.normal ?_
                  go_wp2_with fail
                  go_meet
                  exact ⟨HZ, HB3⟩
              · refine wpOp_at rfl rfl (wp_buildSlice_one 27 3 i0 (.tmp 49) _ (.int .i64 e.1) rfl rfl Try.underlying27 hi0 hz0 hs0 rfl rfl ⟨(((Below.refl _ W).drew).alloc (Nat.le_refl _) _), ?_⟩)
                refine headF_one (i := 0) (by kernel_rfl) (by omega) ?_
                refine wpOp_at rfl rfl (wp_buildSlice_zero 27 3 i0 rfl Try.underlying27 hi0 ⟨((((Below.refl _ W).drew).alloc (Nat.le_refl _) _).alloc (by simp) _), ?_⟩)
                refine headF_one (i := 4) (by kernel_rfl) (by omega) ?_
                refine wpOp_at rfl rfl (wp_append_src _ (.tmp 38) (.tmp 41) 27 rfl W.heap.size 3 i0 _ 1 8 Try.underlying27 hi0 hz0 hs0 hb0 rfl Nat.one_pos (.slice (some ⟨(W.drew.alloc (.cells #[.int .i64 e.1] 3)).heap.size, 0, none⟩) 0 0) 0 [] rfl (owns_empty (Blk.new _ _ _) (by simp)) (loA a4 c4) p c4 (epsOf t1) rfl (HN1.out) (HLO.out _ (((((Below.refl _ W).drew).alloc (Nat.le_refl _) _).alloc (by simp) _))) (one_ints rfl) (by unfold maxLen; omega) (by omega) (by simp; omega) ?_)
                intro v1 w1 ho1 hg1 hv1
                have B1 : Below W.heap.size W w1 := (((((Below.refl _ W).drew).alloc (Nat.le_refl _) _).alloc (by simp) _)).grown hg1 (by simp; omega) (fun q hq => by injection hq with hq; have hq : (W.drew.alloc (.cells #[.int .i64 e.1] 3)).heap.size = q := hq; show W.heap.size ≤ q; first | omega | (rw [World.size_alloc] at hq; have hq : W.heap.size + 1 = q := hq; omega))
                rw [Nat.zero_add, List.nil_append] at ho1
                refine ⟨B1, ?_⟩
                refine headF_one (i := 13) (by kernel_rfl) (by omega) ?_
                refine wpOp_at rfl rfl (wp_append_src _ (.tmp 42) (.tmp 50) 27 rfl W.heap.size 3 i0 _ 1 8 Try.underlying27 hi0 hz0 hs0 hb0 rfl Nat.one_pos v1 p (epsOf t1) rfl (ho1) (some ⟨W.heap.size, 0, none⟩) 1 1 [.int .i64 e.1] rfl rfl (fun _ => ⟨_, rfl, new_oneC (w := W.drew) hg1 (fun h => by injection h with h; have h : (W.drew.alloc (.cells #[.int .i64 e.1] 3)).heap.size = W.heap.size := h; rw [World.size_alloc] at h; have h : W.heap.size + 1 = W.heap.size := h; omega)⟩) (by simp [Value.oneCell']) (by unfold maxLen; omega) (by omega) (B1.size) ?_)
                intro v2 w2 ho2 hg2 hv2
                have B2 : Below W.heap.size W w2 := (B1).grown hg2 (B1.size) (fun q hq => (ho1.lt q hq).1)
                refine ⟨B2, ?_⟩
                refine headF_one (i := 17) (by kernel_rfl) (by omega) ?_
                refine wpOp_at rfl rfl (wp_append_src _ (.tmp 51) (.tmp 54) 27 rfl W.heap.size 3 i0 _ 1 8 Try.underlying27 hi0 hz0 hs0 hb0 rfl Nat.one_pos v2 (p + 1) _ rfl ho2 (hiA a4 p c4) (k - p) (c4 - p) (epsOf t2) rfl (HN2.out) (HHI.out _ B2) (one_ints rfl) (by unfold maxLen; omega) (by omega) (B2.size) ?_)
                intro v3 w3 ho3 hg3 hv3
                have B3 : Below W.heap.size W w3 := B2.grown hg3 B2.size (fun q hq => (ho2.lt q hq).1)
                have HZ : Hid (w3.ownsRow W.heap.size 3 1 v3 (k + 1) (epsOf (t1 ++ e :: t2))) := Lib.hid (by
                  have e1 : p + 1 + (k - p) = k + 1 := by omega
                  have e2 : epsOf (t1 ++ e :: t2) = (epsOf t1) ++ [.int .i64 e.1] ++ (epsOf t2) := by simp [epsOf]
                  rw [e2, ← e1]
                  exact ho3)
                have HB3 := Lib.hid B3
                refine ⟨B3, ?_⟩
                show Region.seqB _ _ _ _ _ = true ∧ _
                refine ⟨by kernel_rfl, ?_⟩
                simp only [Act.put, List.getElem_toArray, List.getElem_cons_zero, List.getElem_cons_succ, List.setIfInBounds_toArray, List.set_cons_zero, List.set_cons_succ, List.drop_succ_cons, List.drop_zero]
                clear ho1 hg1 hv1 ho2 hg2 hv2 ho3 hg3 hv3 B1 B2 B3
                go_wp2
                refine NoPanic.normal ?_
                go_wp2_with fail
                go_meet
                exact ⟨HZ, HB3⟩
            case rest =>
              obtain ⟨HZ4, HB4⟩ := hcut
              obtain ⟨W0, hW0⟩ : ∃ W0, W0 = W := ⟨_, rfl⟩
              subst hW0
              obtain ⟨W, hW⟩ : ∃ W, W = wc := ⟨_, rfl⟩
              subst hW
              have HKX := Lib.hid (HKW.out.trans (HB4.out.mono HKW.out.size))
              replace HW : Hid (∀ i, i < w.heap.size → i < W.heap.size) := Lib.hid (fun i hi => Nat.lt_of_lt_of_le hi HKX.out.size)
              clear n0 j0 HLO HHI
              have n1 : W.cell? ⟨r, 1, none⟩ = some (.slice (some ⟨g1, 0, none⟩) q ci) := (HKX.out.cell (p := ⟨r, 1, none⟩) hrl).trans x1
              have j1 : W.cell? ⟨g1, k, none⟩ = some (.int .i64 e.2) := (HKX.out.cell (p := ⟨g1, k, none⟩) hl1).trans e1
              have HI6 : Hid (W.ownsRow w.heap.size 3 1 (.slice a5 k c5) k (itsOf t1 ++ itsOf t2)) := Lib.hid (owns_same HI5.out fun i hi => HB4.out.block i (HI5.out.lt i hi).2)
              have HLO : Hid (∀ w', Below W.heap.size W w' → 0 < p → ∃ ad, loA a5 c5 = some ad ∧ ∀ j u, (itsOf t1)[j]? = some u → w'.cell? (ad.add j) = some u) := Lib.hid (fun w' hb => lo_src (owns_same HI6.out fun i hi => hb.block i (HI6.out.lt i hi).2) (by rw [HM1.out]; omega) hpk)
              have HHI : Hid (∀ w', Below W.heap.size W w' → 0 < k - p → ∃ ad, hiA a5 p c5 = some ad ∧ ∀ j u, (itsOf t2)[j]? = some u → w'.cell? (ad.add j) = some u) := Lib.hid (fun w' hb => hi_src (owns_same HI6.out fun i hi => hb.block i (HI6.out.lt i hi).2) (by rw [HM1.out]; omega))
              go_wp2
              refine wp_region_first (fun w' => Below W.heap.size W w') 18 5 [1, 2, 3, 5, 6, 7, 8, 9, 10, 11, 14, 15, 16] (by kernel_rfl) (by kernel_rfl) ((Below.refl _ W).drew) ?_
              simp only [List.filterMap_cons, List.filterMap_nil, List.getElem?_toArray, List.getElem?_cons_zero, List.getElem?_cons_succ]
              show wpQuiet _ _ _ _ [_, _, _, _, _, _, _, _, _, _, _, _, _] _
              iterate 2 (go_big_quiet_step ((intros; rfl)))
              refine q_val (.slice (loA a5 c5) p c5) rfl (fun w => (exec_lo rfl rfl rfl hpc1 w).trans (by rw [sliced_lo])) ?_
              simp only [Act.put, List.setIfInBounds_toArray, List.set_cons_zero, List.set_cons_succ]
              iterate 3 (go_big_quiet_step ((intros; rfl)))
              refine q_cell 27 _ _ (.slice (some ⟨g1, 0, none⟩) q ci) rfl rfl rfl (fun w h => by simp [go_sem, h]) (fun w h => (h.cell (p := ⟨r, 1, none⟩) (HW.out r hrl)).trans n1) ?_
              simp only [Act.put, List.setIfInBounds_toArray, List.set_cons_zero, List.set_cons_succ]
              iterate 2 (go_big_quiet_step ((intros; rfl)))
              refine q_cell 3 _ _ (.int .i64 e.2) rfl rfl rfl (fun w h => by simp [go_sem, h]) (fun w h => (h.cell (p := ⟨g1, k, none⟩) (HW.out g1 hl1)).trans j1) ?_
              simp only [Act.put, List.setIfInBounds_toArray, List.set_cons_zero, List.set_cons_succ]
              iterate 2 (go_big_quiet_step ((intros; rfl)))
              refine q_val (.slice (hiA a5 p c5) (k - p) (c5 - p)) rfl (fun w => (exec_hi rfl rfl rfl hpk w).trans (by rw [sliced_hi])) ?_
              simp only [Act.put, List.setIfInBounds_toArray, List.set_cons_zero, List.set_cons_succ]
              refine wpQuiet_nil ?_
              refine headF_two (i := 0) (k := 12) (by kernel_rfl) (by omega) (by omega) ?_ ?_
              · refine wpOp_at rfl rfl (wp_buildSlice_zero 27 3 i0 rfl Try.underlying27 hi0 ⟨(((Below.refl _ W).drew).alloc (Nat.le_refl _) _), ?_⟩)
                refine headF_two (i := 4) (k := 12) (by kernel_rfl) (by omega) (by omega) ?_ ?_
                · refine wpOp_at rfl rfl (wp_append_src _ (.tmp 56) (.tmp 59) 27 rfl W.heap.size 3 i0 _ 1 8 Try.underlying27 hi0 hz0 hs0 hb0 rfl Nat.one_pos (.slice (some ⟨W.heap.size, 0, none⟩) 0 0) 0 [] rfl (owns_empty (Blk.new W.drew _ _) (Nat.le_refl _)) (loA a5 c5) p c5 (itsOf t1) rfl (HM1.out) (HLO.out _ ((((Below.refl _ W).drew).alloc (Nat.le_refl _) _))) (one_ints rfl) (by unfold maxLen; omega) (by omega) (by simp) ?_)
                  intro v1 w1 ho1 hg1 hv1
                  have B1 : Below W.heap.size W w1 := ((((Below.refl _ W).drew).alloc (Nat.le_refl _) _)).grown hg1 (by simp) (fun q hq => by injection hq with hq; have hq : W.heap.size = q := hq; show W.heap.size ≤ q; first | omega | (rw [World.size_alloc] at hq; have hq : W.heap.size + 1 = q := hq; omega))
                  rw [Nat.zero_add, List.nil_append] at ho1
                  refine ⟨B1, ?_⟩
                  refine headF_one (i := 12) (by kernel_rfl) (by omega) ?_
                  refine wpOp_at rfl rfl (wp_buildSlice_one 27 3 i0 (.tmp 67) _ (.int .i64 e.2) rfl rfl Try.underlying27 hi0 hz0 hs0 rfl rfl ⟨B1.alloc B1.size _, ?_⟩)
                  refine headF_one (i := 13) (by kernel_rfl) (by omega) ?_
                  refine wpOp_at rfl rfl (wp_append_src _ (.tmp 60) (.tmp 68) 27 rfl W.heap.size 3 i0 _ 1 8 Try.underlying27 hi0 hz0 hs0 hb0 rfl Nat.one_pos v1 p (itsOf t1) rfl (ho1.alloc _) (some ⟨w1.heap.size, 0, none⟩) 1 1 [.int .i64 e.2] rfl rfl (fun _ => ⟨_, rfl, cell_one_new w1 _ _⟩) (by simp [Value.oneCell']) (by unfold maxLen; omega) (by omega) (by have := B1.size; simp; omega) ?_)
                  intro v2 w2 ho2 hg2 hv2
                  have B2 : Below W.heap.size W w2 := (B1.alloc B1.size _).grown hg2 (by have := B1.size; simp; omega) (fun q hq => (ho1.lt q hq).1)
                  refine ⟨B2, ?_⟩
                  refine headF_one (i := 17) (by kernel_rfl) (by omega) ?_
                  refine wpOp_at rfl rfl (wp_append_src _ (.tmp 69) (.tmp 72) 27 rfl W.heap.size 3 i0 _ 1 8 Try.underlying27 hi0 hz0 hs0 hb0 rfl Nat.one_pos v2 (p + 1) _ rfl ho2 (hiA a5 p c5) (k - p) (c5 - p) (itsOf t2) rfl (HM2.out) (HHI.out _ B2) (one_ints rfl) (by unfold maxLen; omega) (by omega) (B2.size) ?_)
                  intro v3 w3 ho3 hg3 hv3
                  have B3 : Below W.heap.size W w3 := B2.grown hg3 B2.size (fun q hq => (ho2.lt q hq).1)
                  have HZ : Hid (w3.ownsRow W.heap.size 3 1 v3 (k + 1) (itsOf (t1 ++ e :: t2))) := Lib.hid (by
                    have e1 : p + 1 + (k - p) = k + 1 := by omega
                    have e2 : itsOf (t1 ++ e :: t2) = (itsOf t1) ++ [.int .i64 e.2] ++ (itsOf t2) := by simp [itsOf]
                    rw [e2, ← e1]
                    exact ho3)
                  have HB3 := Lib.hid B3
                  refine ⟨B3, ?_⟩
                  show Region.seqB _ _ _ _ _ = true ∧ _
                  refine ⟨by kernel_rfl, ?_⟩
                  simp only [Act.put, List.getElem_toArray, List.getElem_cons_zero, List.getElem_cons_succ, List.setIfInBounds_toArray, List.set_cons_zero, List.set_cons_succ, List.drop_succ_cons, List.drop_zero]
                  clear ho1 hg1 hv1 ho2 hg2 hv2 ho3 hg3 hv3 B1 B2 B3
                  go_wp2
                  refine NoPanic.normal ?_
                  have HF : Hid (Srt (t1 ++ e :: t2) ∧ Stab (L.take (k + 1)) (t1 ++ e :: t2) ∧ AllR w w3 (t1 ++ e :: t2) u4 v3) := Lib.hid (by
                    have hlen : (t1 ++ e :: t2).length = k + 1 := by rw [List.length_append, List.length_cons]; omega
                    refine ⟨HF1.out, by rw [HT.out]; exact (HST.out.append (Stab.refl [e])).trans HF2.out, ?_, ?_, HKX.out.trans (HB3.out.mono HKX.out.size)⟩
                    · rw [hlen]
                      exact owns_base (owns_same HZ4.out fun i hi => HB3.out.block i (HZ4.out.lt i hi).2) HKW.out.size
                    · rw [hlen]
                      exact owns_base HZ.out HKX.out.size)
                  clear HZ HB3
                  go_wp2
                  go_roundw
                  case rel => exact ⟨k + 1, t1 ++ e :: t2, by omega, by go_num, HF⟩
                  case measure => simp [intOf]; omega
                · refine wpOp_at rfl rfl (wp_buildSlice_one 27 3 i0 (.tmp 67) _ (.int .i64 e.2) rfl rfl Try.underlying27 hi0 hz0 hs0 rfl rfl ⟨((((Below.refl _ W).drew).alloc (Nat.le_refl _) _).alloc (by simp) _), ?_⟩)
                  refine headF_one (i := 4) (by kernel_rfl) (by omega) ?_
                  refine wpOp_at rfl rfl (wp_append_src _ (.tmp 56) (.tmp 59) 27 rfl W.heap.size 3 i0 _ 1 8 Try.underlying27 hi0 hz0 hs0 hb0 rfl Nat.one_pos (.slice (some ⟨W.heap.size, 0, none⟩) 0 0) 0 [] rfl (owns_empty ((Blk.new W.drew _ _).alloc _) (Nat.le_refl _)) (loA a5 c5) p c5 (itsOf t1) rfl (HM1.out) (HLO.out _ (((((Below.refl _ W).drew).alloc (Nat.le_refl _) _).alloc (by simp) _))) (one_ints rfl) (by unfold maxLen; omega) (by omega) (by simp; omega) ?_)
                  intro v1 w1 ho1 hg1 hv1
                  have B1 : Below W.heap.size W w1 := (((((Below.refl _ W).drew).alloc (Nat.le_refl _) _).alloc (by simp) _)).grown hg1 (by simp; omega) (fun q hq => by injection hq with hq; have hq : W.heap.size = q := hq; show W.heap.size ≤ q; first | omega | (rw [World.size_alloc] at hq; have hq : W.heap.size + 1 = q := hq; omega))
                  rw [Nat.zero_add, List.nil_append] at ho1
                  refine ⟨B1, ?_⟩
                  refine headF_one (i := 13) (by kernel_rfl) (by omega) ?_
                  refine wpOp_at rfl rfl (wp_append_src _ (.tmp 60) (.tmp 68) 27 rfl W.heap.size 3 i0 _ 1 8 Try.underlying27 hi0 hz0 hs0 hb0 rfl Nat.one_pos v1 p (itsOf t1) rfl (ho1) (some ⟨(W.drew.alloc (.cells #[] 3)).heap.size, 0, none⟩) 1 1 [.int .i64 e.2] rfl rfl (fun _ => ⟨_, rfl, new_one (w := W.drew.alloc (.cells #[] 3)) hg1 (fun h => by injection h with h; have h : W.heap.size = (W.drew.alloc (.cells #[] 3)).heap.size := h; rw [World.size_alloc] at h; have h : W.heap.size = W.heap.size + 1 := h; omega)⟩) (by simp [Value.oneCell']) (by unfold maxLen; omega) (by omega) (B1.size) ?_)
                  intro v2 w2 ho2 hg2 hv2
                  have B2 : Below W.heap.size W w2 := (B1).grown hg2 (B1.size) (fun q hq => (ho1.lt q hq).1)
                  refine ⟨B2, ?_⟩
                  refine headF_one (i := 17) (by kernel_rfl) (by omega) ?_
                  refine wpOp_at rfl rfl (wp_append_src _ (.tmp 69) (.tmp 72) 27 rfl W.heap.size 3 i0 _ 1 8 Try.underlying27 hi0 hz0 hs0 hb0 rfl Nat.one_pos v2 (p + 1) _ rfl ho2 (hiA a5 p c5) (k - p) (c5 - p) (itsOf t2) rfl (HM2.out) (HHI.out _ B2) (one_ints rfl) (by unfold maxLen; omega) (by omega) (B2.size) ?_)
                  intro v3 w3 ho3 hg3 hv3
                  have B3 : Below W.heap.size W w3 := B2.grown hg3 B2.size (fun q hq => (ho2.lt q hq).1)
                  have HZ : Hid (w3.ownsRow W.heap.size 3 1 v3 (k + 1) (itsOf (t1 ++ e :: t2))) := Lib.hid (by
                    have e1 : p + 1 + (k - p) = k + 1 := by omega
                    have e2 : itsOf (t1 ++ e :: t2) = (itsOf t1) ++ [.int .i64 e.2] ++ (itsOf t2) := by simp [itsOf]
                    rw [e2, ← e1]
                    exact ho3)
                  have HB3 := Lib.hid B3
                  refine ⟨B3, ?_⟩
                  show Region.seqB _ _ _ _ _ = true ∧ _
                  refine ⟨by kernel_rfl, ?_⟩
                  simp only [Act.put, List.getElem_toArray, List.getElem_cons_zero, List.getElem_cons_succ, List.setIfInBounds_toArray, List.set_cons_zero, List.set_cons_succ, List.drop_succ_cons, List.drop_zero]
                  clear ho1 hg1 hv1 ho2 hg2 hv2 ho3 hg3 hv3 B1 B2 B3
                  go_wp2
                  refine NoPanic.normal ?_
                  have HF : Hid (Srt (t1 ++ e :: t2) ∧ Stab (L.take (k + 1)) (t1 ++ e :: t2) ∧ AllR w w3 (t1 ++ e :: t2) u4 v3) := Lib.hid (by
                    have hlen : (t1 ++ e :: t2).length = k + 1 := by rw [List.length_append, List.length_cons]; omega
                    refine ⟨HF1.out, by rw [HT.out]; exact (HST.out.append (Stab.refl [e])).trans HF2.out, ?_, ?_, HKX.out.trans (HB3.out.mono HKX.out.size)⟩
                    · rw [hlen]
                      exact owns_base (owns_same HZ4.out fun i hi => HB3.out.block i (HZ4.out.lt i hi).2) HKW.out.size
                    · rw [hlen]
                      exact owns_base HZ.out HKX.out.size)
                  clear HZ HB3
                  go_wp2
                  go_roundw
                  case rel => exact ⟨k + 1, t1 ++ e :: t2, by omega, by go_num, HF⟩
                  case measure => simp [intOf]; omega
              · refine wpOp_at rfl rfl (wp_buildSlice_one 27 3 i0 (.tmp 67) _ (.int .i64 e.2) rfl rfl Try.underlying27 hi0 hz0 hs0 rfl rfl ⟨(((Below.refl _ W).drew).alloc (Nat.le_refl _) _), ?_⟩)
                refine headF_one (i := 0) (by kernel_rfl) (by omega) ?_
                refine wpOp_at rfl rfl (wp_buildSlice_zero 27 3 i0 rfl Try.underlying27 hi0 ⟨((((Below.refl _ W).drew).alloc (Nat.le_refl _) _).alloc (by simp) _), ?_⟩)
                refine headF_one (i := 4) (by kernel_rfl) (by omega) ?_
                refine wpOp_at rfl rfl (wp_append_src _ (.tmp 56) (.tmp 59) 27 rfl W.heap.size 3 i0 _ 1 8 Try.underlying27 hi0 hz0 hs0 hb0 rfl Nat.one_pos (.slice (some ⟨(W.drew.alloc (.cells #[.int .i64 e.2] 3)).heap.size, 0, none⟩) 0 0) 0 [] rfl (owns_empty (Blk.new _ _ _) (by simp)) (loA a5 c5) p c5 (itsOf t1) rfl (HM1.out) (HLO.out _ (((((Below.refl _ W).drew).alloc (Nat.le_refl _) _).alloc (by simp) _))) (one_ints rfl) (by unfold maxLen; omega) (by omega) (by simp; omega) ?_)
                intro v1 w1 ho1 hg1 hv1
                have B1 : Below W.heap.size W w1 := (((((Below.refl _ W).drew).alloc (Nat.le_refl _) _).alloc (by simp) _)).grown hg1 (by simp; omega) (fun q hq => by injection hq with hq; have hq : (W.drew.alloc (.cells #[.int .i64 e.2] 3)).heap.size = q := hq; show W.heap.size ≤ q; first | omega | (rw [World.size_alloc] at hq; have hq : W.heap.size + 1 = q := hq; omega))
                rw [Nat.zero_add, List.nil_append] at ho1
                refine ⟨B1, ?_⟩
                refine headF_one (i := 13) (by kernel_rfl) (by omega) ?_
                refine wpOp_at rfl rfl (wp_append_src _ (.tmp 60) (.tmp 68) 27 rfl W.heap.size 3 i0 _ 1 8 Try.underlying27 hi0 hz0 hs0 hb0 rfl Nat.one_pos v1 p (itsOf t1) rfl (ho1) (some ⟨W.heap.size, 0, none⟩) 1 1 [.int .i64 e.2] rfl rfl (fun _ => ⟨_, rfl, new_oneC (w := W.drew) hg1 (fun h => by injection h with h; have h : (W.drew.alloc (.cells #[.int .i64 e.2] 3)).heap.size = W.heap.size := h; rw [World.size_alloc] at h; have h : W.heap.size + 1 = W.heap.size := h; omega)⟩) (by simp [Value.oneCell']) (by unfold maxLen; omega) (by omega) (B1.size) ?_)
                intro v2 w2 ho2 hg2 hv2
                have B2 : Below W.heap.size W w2 := (B1).grown hg2 (B1.size) (fun q hq => (ho1.lt q hq).1)
                refine ⟨B2, ?_⟩
                refine headF_one (i := 17) (by kernel_rfl) (by omega) ?_
                refine wpOp_at rfl rfl (wp_append_src _ (.tmp 69) (.tmp 72) 27 rfl W.heap.size 3 i0 _ 1 8 Try.underlying27 hi0 hz0 hs0 hb0 rfl Nat.one_pos v2 (p + 1) _ rfl ho2 (hiA a5 p c5) (k - p) (c5 - p) (itsOf t2) rfl (HM2.out) (HHI.out _ B2) (one_ints rfl) (by unfold maxLen; omega) (by omega) (B2.size) ?_)
                intro v3 w3 ho3 hg3 hv3
                have B3 : Below W.heap.size W w3 := B2.grown hg3 B2.size (fun q hq => (ho2.lt q hq).1)
                have HZ : Hid (w3.ownsRow W.heap.size 3 1 v3 (k + 1) (itsOf (t1 ++ e :: t2))) := Lib.hid (by
                  have e1 : p + 1 + (k - p) = k + 1 := by omega
                  have e2 : itsOf (t1 ++ e :: t2) = (itsOf t1) ++ [.int .i64 e.2] ++ (itsOf t2) := by simp [itsOf]
                  rw [e2, ← e1]
                  exact ho3)
                have HB3 := Lib.hid B3
                refine ⟨B3, ?_⟩
                show Region.seqB _ _ _ _ _ = true ∧ _
                refine ⟨by kernel_rfl, ?_⟩
                simp only [Act.put, List.getElem_toArray, List.getElem_cons_zero, List.getElem_cons_succ, List.setIfInBounds_toArray, List.set_cons_zero, List.set_cons_succ, List.drop_succ_cons, List.drop_zero]
                clear ho1 hg1 hv1 ho2 hg2 hv2 ho3 hg3 hv3 B1 B2 B3
                go_wp2
                refine NoPanic.normal ?_
                have HF : Hid (Srt (t1 ++ e :: t2) ∧ Stab (L.take (k + 1)) (t1 ++ e :: t2) ∧ AllR w w3 (t1 ++ e :: t2) u4 v3) := Lib.hid (by
                  have hlen : (t1 ++ e :: t2).length = k + 1 := by rw [List.length_append, List.length_cons]; omega
                  refine ⟨HF1.out, by rw [HT.out]; exact (HST.out.append (Stab.refl [e])).trans HF2.out, ?_, ?_, HKX.out.trans (HB3.out.mono HKX.out.size)⟩
                  · rw [hlen]
                    exact owns_base (owns_same HZ4.out fun i hi => HB3.out.block i (HZ4.out.lt i hi).2) HKW.out.size
                  · rw [hlen]
                    exact owns_base HZ.out HKX.out.size)
                clear HZ HB3
                go_wp2
                go_roundw
                case rel => exact ⟨k + 1, t1 ++ e :: t2, by omega, by go_num, HF⟩
                case measure => simp [intOf]; omega
    · obtain rfl : k = q := by omega
      clear hlt
      have hlt : ¬ k < k := by omega
      have hz : Srt t ∧ Stab L t ∧ AllR w wr t u4 u5 := ⟨hso, by have := hst; rwa [List.take_of_length_le (by rw [HQ.out]; exact Nat.le_refl _)] at this, hd⟩
      have HZ := Lib.hid hz
      clear hz hso hst hd HD
      go_wp2
      go_ret2
      exact ⟨t, u4, u5, HZ.out.1, HZ.out.2.1, rfl, HZ.out.2.2⟩
end Go.Proofs.Ytinndmglacfofaa
