/- The walk of AssignPlays. (Written by mkplays.py.) -/
import Derived.Test.YtkeclanbebiogaaFull
import Derived.Test.YtkeclanbebiogaaFirst
import Derived.OpenShut
import Derived.Outline
namespace Go.Proofs.Ytkeclanbebiogaa
open Go Go.RowKit Go.OpenShut
set_option linter.unusedVariables false
set_option linter.unusedSimpArgs false
set_option maxRecDepth 100000

/-- What the law reads of the reference. -/
def Seen (d kk : Nat) (bl : Int) (fa : Option Addr) (fc : Nat) (va : Option Addr) (vc nf nv : Nat) (w : World) : Prop :=
  w.cell? ⟨kk, 0, none⟩ = some (.int .u64 bl) ∧ w.cell? ⟨d, 0, none⟩ = some (.slice fa nf fc) ∧ w.cell? ⟨d, 1, none⟩ = some (.slice va nv vc)
def Seen2 (d kk : Nat) (bl : Int) (fa : Option Addr) (fc : Nat) (va : Option Addr) (vc nf nv : Nat) (F V : List Int) (w : World) : Prop :=
  Seen d kk bl fa fc va vc nf nv w ∧ IntsAt w (fun _ => False) fa F ∧ IntsAt w (fun _ => False) va V
theorem Seen2.below {d kk fc vc nf nv : Nat} {bl : Int} {fa va : Option Addr} {F V : List Int} {w w' : World} (h : Seen2 d kk bl fa fc va vc nf nv F V w) (k : Below w.heap.size w w') : Seen2 d kk bl fa fc va vc nf nv F V w' :=
  ⟨⟨(k.cell (p := ⟨kk, 0, none⟩) (cell_lt h.1.1)).trans h.1.1, (k.cell (p := ⟨d, 0, none⟩) (cell_lt h.1.2.1)).trans h.1.2.1, (k.cell (p := ⟨d, 1, none⟩) (cell_lt h.1.2.2)).trans h.1.2.2⟩, h.2.1.below k, h.2.2.below k⟩
theorem Full.seen {w0 w : World} {b m d kk nn : Nat} {S : Nat → Prop} {F V RF RV : List Int} {B Sp RB RSp : Int} (h : Full w0 w b m d kk nn S F V RF RV B Sp RB RSp) : ∃ fa fc va vc, Seen2 d kk RB fa fc va vc RF.length RV.length RF RV w := by
  obtain ⟨h1, h2, T, D, h3, h4⟩ := h
  obtain ⟨fa, fc, va, vc, r1, r2, r3, _⟩ := h1.2.1
  exact ⟨fa, fc, va, vc, ⟨h3.bal, r1.cell 0, r1.cell 1⟩, r2.other (fun _ _ h => h.elim), r3.other (fun _ _ h => h.elim)⟩
set_option maxHeartbeats 6400000 in
theorem walk_AssignPlays (a0 : Option Addr) (len0 cap0 : Nat) (a1 : Option Addr) (len1 cap1 : Nat) (z1 : List Int) (w : World) (w0 : IsRounds w a0 len0 cap0) (w1 : IsRow .u64 w a1 len1 cap1 z1) :
    Calls Try.prog 3 #[.slice a0 len0 cap0, .slice a1 len1 cap1] w fun e w' => e = .returned (.bool true) ∧ Below w.heap.size w w' := by
  obtain ⟨hlc, hcm, R, hR⟩ := w0
  have hl0 : len0 ≤ 9223372036854775807 := by unfold maxLen at hcm; omega
  obtain ⟨hu, hl1, hm1, hA⟩ := UAt.of_row w1
  generalize z1.take len1 = L at *
  subst hl1
  have HR := Lib.hid hR
  have HU := Lib.hid hu
  have HA := Lib.hid hA
  have HF := Lib.hid (few_any a0 len0 cap0 R w hR hl0)
  have HN := Lib.hid (fun w => new_some 8 w (by omega) (by omega))
  clear w1 hR hu hA hlc hcm
  go_enter Try.func3, Try.ntmps3
  go_wp2_with fail
  refine HF.out.mono ?_
  rintro e w1 ⟨r, rfl, hr, hb⟩
  have HB1 := Lib.hid hb
  have HFR := Lib.hid hr
  clear hb hr HF
  cases r
  · go_wp2_with fail
    refine (alive_any _).mono ?_
    rintro e w3 ⟨rfl, hb⟩
    have HB := Lib.hid (HB1.out.trans (hb.mono HB1.out.size))
    clear hb
    go_wp2_with fail
    go_ret
    exact ⟨rfl, HB.out⟩
  · by_cases h100 : (100 : Int) < (L.length : Int)
    · go_wp2_with fail
      refine (alive_any _).mono ?_
      rintro e w3 ⟨rfl, hb⟩
      have HB := Lib.hid (HB1.out.trans (hb.mono HB1.out.size))
      clear hb
      go_wp2_with fail
      go_ret
      exact ⟨rfl, HB.out⟩
    · have h40 := (HFR.out rfl).1
      clear HFR
      go_wp2_with fail
      refine (HN.out _).mono ?_
      rintro e w2 ⟨rfl, ⟨S1, q1, q2⟩, q3⟩
      have Q := Lib.hid (And.intro q1 (And.intro q2 q3))
      clear q1 q2 q3 HN
      go_wp2_with fail
      refine (new_at _).mono ?_
      rintro e w3 ⟨rfl, m1, m2, m3⟩
      have LW := Lib.hid (full_new (law_new (w0 := w) (nn := 8) Q.out.1 (fun i hi => Nat.le_trans HB1.out.size (Q.out.2.1 i hi)) (HB1.out.trans (Q.out.2.2.mono HB1.out.size)) m1 m2 m3 (by omega)))
      have hzz : (w3.alloc (.cells #[.slice none 0 0, .slice none 0 0, .int .i64 8] 33)).heap.size = w3.heap.size + 1 := by simp
      have hz8 : ((8 : Nat) : Int) = 8 := rfl
      rw [hz8] at LW
      rw [hzz] at LW
      clear m1 m2 m3 Q HB1 hzz hz8
      go_wp2_with fail
      generalize (w3.alloc (.cells #[.slice none 0 0, .slice none 0 0, .int .i64 8] 33)).alloc (.cells #[.int .u64 0, .int .u64 0, .int .u64 0, .int .u64 0, .int .u64 0] 37) = w4 at *
      generalize w1.heap.size = b at *
      generalize w2.heap.size = m at *
      generalize w3.heap.size + 1 = kk at *
      generalize w3.heap.size = d at *
      go_loopw [36] (fun s36 wr => ∃ (k : Nat) (S : Nat → Prop) (F V : List Int) (B Sp : Int), k ≤ len0 ∧ s36 = .int .i64 k ∧ Hid (Full w wr b m d kk 8 S F V F V B Sp B Sp)) (fun s36 _ => len0 - (intOf s36).toNat)
      case atStart => exact ⟨0, S1, [], [], 0, 0, by omega, rfl, LW⟩
      case round =>
        clear LW
        obtain ⟨k, S, F, V, B, Sp, hk, rfl, HL⟩ := hrel
        by_cases hkl : k < len0
        · obtain ⟨rb, ro, rfl, hrb, hx, hrn⟩ := HR.out.at HL.out.1.bel hkl
          have hrnd : RndAt w (fun _ => False) (R k) := by
            obtain ⟨_, _, e, _, hc⟩ := HR.out (by omega)
            exact (hc k hkl).2
          generalize R k = r at *
          have HRN := Lib.hid hrnd
          have HLR := Lib.hid (HL.out.alloc (.cells (cellsR r) 39))
          have HBK : Hid (Blk (wr.alloc (.cells (cellsR r) 39)) wr.heap.size 39 (cellsR r)) := Lib.hid (Blk.new wr _ _)
          have HZ : Hid (¬ S wr.heap.size ∧ wr.heap.size ≠ d ∧ wr.heap.size ≠ m ∧ wr.heap.size ≠ kk) := Lib.hid ⟨fun e => Nat.lt_irrefl _ (HL.out.1.1.1.lt _ e), fun e => by have := HL.out.1.2.1.lt; omega, fun e => by have := HL.out.1.1.mlt; omega, fun e => by have := (HL.out.1.2.2.2.2.2.2.1 kk (.inr rfl)).2; omega⟩
          have x2 : (wr.alloc (.cells (cellsR r) 39)).cell? ⟨wr.heap.size, 2, none⟩ = some (.int .u64 r.lim) := HBK.out.cell 2
          obtain ⟨_, _, _, _, lm0, lm1⟩ := hrnd
          clear HL hrn
          go_wp2_with (first | (refine wpList_load_rnd rfl 39 _ rfl rb (ro + k * 3) rfl r _ hx.out Try.underlying39 rfl infoR ?_) | (refine wpList_store_row rfl _ _ _ rfl wr.heap.size (cellsR r) rfl rfl 39 _ (heap_alloc_new wr _) infoR rfl (cellsR_one r) ?_; rw [World.setRow_alloc_new]) | (refine wpList_load_row rfl 39 _ rfl wr.heap.size rfl 39 (cellsR r) (0, 0) _ HBK.out Try.underlying39 rfl infoR ?_))
          refine (HLR.out.push r HRN.out).mono ?_
          rintro e w5 ⟨rfl, S5, L5, K5, G5⟩
          have x5 : Hid (w5.cell? ⟨wr.heap.size, 2, none⟩ = some (.int .u64 r.lim) ∧ ¬ S5 wr.heap.size) := Lib.hid ⟨K5.out.cell (fun e => e.elim HZ.out.1 HZ.out.2.1) x2, fun e => (G5.out _ e).elim HZ.out.1 (fun e => by simp at e; omega)⟩
          have x5c := x5.out.1
          clear x2 HLR HBK K5 G5 hx HRN
          generalize pAll 8 F r.F = F5 at *
          generalize pAll 8 V r.V = V5 at *
          generalize r.lim = lim at *
          have HS := Lib.hid (L5.out.step (x := lim) (ep := k) (cap := cap1) (HU.out.below L5.out.1.bel) (by omega) HA.out lm0 (by omega) (by omega))
          have HB8 : Hid ((stp (wOf L) F5 V5 B lim).1.length ≤ 16 ∧ (stp (wOf L) F5 V5 B lim).2.1.length ≤ 16 ∧ (stp (wOf L) F5 V5 B lim).2.2.1.length ≤ 16) := Lib.hid (by
            have := asg_len (wOf L) F5 V5 (gr B lim)
            have h8 := L5.out.1.1.1.size
            unfold stp
            omega)
          have HST := Lib.hid (fun w7 S7 F7 V7 (L7 : Full w w7 b m d kk 8 S7 F7 V7 F5 V5 (balOf (stp (wOf L) F5 V5 B lim)) (sumW (wOf L) (stp (wOf L) F5 V5 B lim).1) B Sp) => L7.rstep (x := lim) (ep := k) (cap := cap1) (HU.out.below L7.1.bel) (by omega) HA.out lm0 (by omega) (by omega))
          generalize sumW (wOf L) (stp (wOf L) F5 V5 B lim).1 = sp at *
          generalize stp (wOf L) F5 V5 B lim = rr at *
          obtain ⟨out, F7, V7, B7⟩ := rr
          dsimp only at HB8
          go_wp2_with fail
          refine HS.out.mono ?_
          rintro e w7 ⟨a7, c7, S7, he, L7', G7, A7, K7⟩
          change e = .returned (.slice a7 out.length c7) at he
          subst he
          have L7 : Hid (Full w w7 b m d kk 8 S7 F7 V7 F5 V5 (balOf (out, F7, V7, B7)) sp B Sp) := L7'
          have x7 : w7.cell? ⟨wr.heap.size, 2, none⟩ = some (.int .u64 lim) := K7.out.cell (fun e => e.elim HZ.out.2.2.1 x5.out.2) x5c
          have HDK : Hid (d < w5.heap.size ∧ kk < w5.heap.size) := Lib.hid ⟨L5.out.1.2.1.lt, (L5.out.1.2.2.2.2.2.2.1 kk (.inr rfl)).2⟩
          have A8 : Hid (AAt w7 (fun i => i = d ∨ i = kk) a7 ((k : Int) + 1) out) := Lib.hid (A7.out.other (fun i _ e => .inl (e.elim (fun e => by have := HDK.out; omega) (fun e => by have := HDK.out; omega))))
          clear HS L7' G7 A7 K7 x5c x5 L5 HDK
          go_wp2_with fail
          refine (HST.out _ _ _ _ L7.out).mono ?_
          rintro e w9 ⟨a9, c9, he, L9', A9, K9⟩
          change e = .returned (.slice a9 out.length c9) at he
          subst he
          have FW0 : Hid (Full w w9 b m d kk 8 S7 F7 V7 F7 V7 (balOf (out, F7, V7, B7)) sp (balOf (out, F7, V7, B7)) sp) := L9'
          have A10 := Lib.hid (A8.out.kept K9.out (fun _ _ h => h))
          have HSM := Lib.hid (same_any a7 a9 out.length c7 c9 ((k : Int) + 1) out _ _ w9.drew A10.out A9.out (by have := HB8.out.1; omega) rfl)
          generalize balOf (out, F7, V7, B7) = bl at *
          obtain ⟨fa, fc, va, vc, hsn⟩ := FW0.out.seen
          have FW : Hid (Full w w9.drew b m d kk 8 S7 F7 V7 F7 V7 bl sp bl sp) := Lib.hid (FW0.out.drewN 1)
          have TW : Hid (Seen2 d kk bl fa fc va vc F7.length V7.length F7 V7 w9.drew) := Lib.hid (hsn.below (below_drewN (Below.refl _ _) 1))
          obtain ⟨nf, hnf⟩ : ∃ nf, F7.length = nf := ⟨_, rfl⟩
          obtain ⟨nv, hnv⟩ : ∃ nv, V7.length = nv := ⟨_, rfl⟩
          obtain ⟨no, hno⟩ : ∃ no, out.length = no := ⟨_, rfl⟩
          have HNF := Lib.hid hnf
          have HNV := Lib.hid hnv
          rw [hnf, hnv] at TW
          rw [hnf, hnv] at HB8
          rw [hno] at HSM ⊢
          clear hnf hnv hno hsn FW0 L9' A9 A8 A10 K9 L7 HST x7
          go_wp2_with fail
          refine wp_region_first (fun _ => True) 32 30 [0, 1] (by kernel_rfl) (by kernel_rfl) trivial ?_
          simp only [List.filterMap_cons, List.filterMap_nil, List.getElem?_toArray, List.getElem?_cons_zero, List.getElem?_cons_succ]
          show wpQuiet _ _ _ _ [_, _] _
          iterate 2 (go_big_quiet_step ((intros; rfl)))
          refine wpQuiet_nil ?_
          refine headF_one (i := 2) (by kernel_rfl) (by omega) ?_
          refine wpOp_at rfl rfl (wp_call_at rfl #[.slice a7 no c7, .slice a9 no c9] (by kernel_rfl) Try.call16 ((HSM.out.mono ?_)))
          rintro e u1 ⟨rfl, b1⟩
          have F1 := Lib.hid (FW.out.below b1)
          have T1 := Lib.hid (TW.out.below b1)
          clear b1 HSM
          refine ⟨_, rfl, trivial, ?_⟩
          simp only [Act.put, List.getElem_toArray, List.getElem_cons_zero, List.getElem_cons_succ, List.setIfInBounds_toArray, List.set_cons_zero, List.set_cons_succ]
          refine headF_takes (Seen d kk bl fa fc va vc nf nv) (m := 29) (f := 22) [3, 4, 5, 7, 8, 9, 10] (fun _ h => trivial) (by kernel_rfl) T1.out.1 ?_
          simp only [List.filterMap_cons, List.filterMap_nil, List.getElem?_toArray, List.getElem?_cons_zero, List.getElem?_cons_succ]
          show wpQuiet _ _ _ _ [_, _, _, _, _, _, _] _
          iterate 6 (go_big_quiet_step ((intros; rfl)))
          refine q_cell 35 _ ⟨kk, 0, none⟩ (.int .u64 bl) (by kernel_rfl) rfl rfl (fun w h => by simp [go_sem, h]) (fun w h => h.1) ?_
          simp only [Act.put, List.setIfInBounds_toArray, List.set_cons_zero, List.set_cons_succ]
          refine wpQuiet_nil ?_
          refine headF_one (i := 6) (by kernel_rfl) (by omega) ?_
          refine wpOp_atG rfl (by kernel_rfl) (wp_call_at rfl #[.pointer (some ⟨m, 0, none⟩)] (by kernel_rfl) Try.call17 ((F1.out.1.1.balance).mono ?_))
          rintro e u2 ⟨rfl, q2, hq2⟩
          have F2 : Hid (Full w u2 b m d kk 8 S7 F7 V7 F7 V7 bl sp bl sp) := Lib.hid (hq2 ▸ F1.out.drewN q2)
          have T2 : Hid (Seen2 d kk bl fa fc va vc nf nv F7 V7 u2) := Lib.hid (hq2 ▸ T1.out.below (below_drewN (Below.refl _ _) q2))
          clear hq2 F1 T1
          refine ⟨_, rfl, T2.out.1, ?_⟩
          simp only [Act.put, List.getElem_toArray, List.getElem_cons_zero, List.getElem_cons_succ, List.setIfInBounds_toArray, List.set_cons_zero, List.set_cons_succ]
          refine headF_takes (Seen d kk bl fa fc va vc nf nv) (m := 21) (f := 13) [11, 12, 13, 14, 16, 17, 18, 19] (fun _ h => h) (by kernel_rfl) T2.out.1 ?_
          simp only [List.filterMap_cons, List.filterMap_nil, List.getElem?_toArray, List.getElem?_cons_zero, List.getElem?_cons_succ]
          show wpQuiet _ _ _ _ [_, _, _, _, _, _, _, _] _
          iterate 7 (go_big_quiet_step ((intros; rfl)))
          refine q_cell 31 _ ⟨d, 0, none⟩ (.slice fa nf fc) (by kernel_rfl) rfl rfl (fun w h => by simp [go_sem, h]) (fun w h => h.2.1) ?_
          simp only [Act.put, List.setIfInBounds_toArray, List.set_cons_zero, List.set_cons_succ]
          refine wpQuiet_nil ?_
          refine headF_one (i := 15) (by kernel_rfl) (by omega) ?_
          refine wpOp_atG rfl (by kernel_rfl) (wp_call_at rfl #[.pointer (some ⟨b, 0, none⟩), .int .i64 0] (by kernel_rfl) Try.call19 ((all_any 0 F2.out.1.1.1).mono ?_))
          rintro e u3 ⟨v3, rfl, o3, b3⟩
          have F3 := Lib.hid (F2.out.below b3)
          have T3 := Lib.hid (T2.out.below b3)
          obtain ⟨a3, c3, rfl, _, _, _, i3⟩ := ints_of_owns (S := fun _ => False) o3 (fun _ _ h => h)
          have E3 := Lib.hid (equal_same (n := nf) (c := c3) (d := fc) i3 T3.out.2.1 HNF.out (by have := HB8.out; omega))
          clear o3 b3 i3 F2 T2
          refine ⟨_, rfl, T3.out.1, ?_⟩
          rw [show (laneL F7 V7 0).length = nf from HNF.out]
          simp only [Act.put, List.getElem_toArray, List.getElem_cons_zero, List.getElem_cons_succ, List.setIfInBounds_toArray, List.set_cons_zero, List.set_cons_succ]
          refine headF_one (i := 20) (by kernel_rfl) (by omega) ?_
          refine wpOp_atG rfl (by kernel_rfl) (wp_call_at rfl #[.slice a3 nf c3, .slice fa nf fc] (by kernel_rfl) Try.call18 ((E3.out).mono ?_))
          rintro e u4 ⟨rfl, q4, hq4⟩
          have F4 : Hid (Full w u4 b m d kk 8 S7 F7 V7 F7 V7 bl sp bl sp) := Lib.hid (hq4 ▸ F3.out.drewN q4)
          have T4 : Hid (Seen2 d kk bl fa fc va vc nf nv F7 V7 u4) := Lib.hid (hq4 ▸ T3.out.below (below_drewN (Below.refl _ _) q4))
          clear hq4 F3 T3 E3
          refine ⟨_, rfl, T4.out.1, ?_⟩
          simp only [Act.put, List.getElem_toArray, List.getElem_cons_zero, List.getElem_cons_succ, List.setIfInBounds_toArray, List.set_cons_zero, List.set_cons_succ]
          refine headF_takes (Seen d kk bl fa fc va vc nf nv) (m := 11) (f := 3) [21, 22, 23, 24, 26, 27, 28, 29] (fun _ h => h) (by kernel_rfl) T4.out.1 ?_
          simp only [List.filterMap_cons, List.filterMap_nil, List.getElem?_toArray, List.getElem?_cons_zero, List.getElem?_cons_succ]
          show wpQuiet _ _ _ _ [_, _, _, _, _, _, _, _] _
          iterate 7 (go_big_quiet_step ((intros; rfl)))
          refine q_cell 31 _ ⟨d, 1, none⟩ (.slice va nv vc) (by kernel_rfl) rfl rfl (fun w h => by simp [go_sem, h]) (fun w h => h.2.2) ?_
          simp only [Act.put, List.setIfInBounds_toArray, List.set_cons_zero, List.set_cons_succ]
          refine wpQuiet_nil ?_
          refine headF_one (i := 25) (by kernel_rfl) (by omega) ?_
          refine wpOp_atG rfl (by kernel_rfl) (wp_call_at rfl #[.pointer (some ⟨b, 0, none⟩), .int .i64 1] (by kernel_rfl) Try.call19 ((all_any 1 F4.out.1.1.1).mono ?_))
          rintro e u5 ⟨v5, rfl, o5, b5⟩
          have F5 := Lib.hid (F4.out.below b5)
          have T5 := Lib.hid (T4.out.below b5)
          obtain ⟨a5, c5, rfl, _, _, _, i5⟩ := ints_of_owns (S := fun _ => False) o5 (fun _ _ h => h)
          have E5 := Lib.hid (equal_same (n := nv) (c := c5) (d := vc) i5 T5.out.2.2 HNV.out (by have := HB8.out; omega))
          clear o5 b5 i5 F4 T4
          refine ⟨_, rfl, T5.out.1, ?_⟩
          rw [show (laneL F7 V7 1).length = nv from HNV.out]
          simp only [Act.put, List.getElem_toArray, List.getElem_cons_zero, List.getElem_cons_succ, List.setIfInBounds_toArray, List.set_cons_zero, List.set_cons_succ]
          refine headF_one (i := 30) (by kernel_rfl) (by omega) ?_
          refine wpOp_atG rfl (by kernel_rfl) (wp_call_at rfl #[.slice a5 nv c5, .slice va nv vc] (by kernel_rfl) Try.call18 ((E5.out).mono ?_))
          rintro e u6 ⟨rfl, q6, hq6⟩
          have F6 : Hid (Full w u6 b m d kk 8 S7 F7 V7 F7 V7 bl sp bl sp) := Lib.hid (hq6 ▸ F5.out.drewN q6)
          have T6 : Hid (Seen2 d kk bl fa fc va vc nf nv F7 V7 u6) := Lib.hid (hq6 ▸ T5.out.below (below_drewN (Below.refl _ _) q6))
          clear hq6 F5 T5 E5
          refine ⟨_, rfl, T6.out.1, ?_⟩
          simp only [Act.put, List.getElem_toArray, List.getElem_cons_zero, List.getElem_cons_succ, List.setIfInBounds_toArray, List.set_cons_zero, List.set_cons_succ]
          refine headF_takes (Seen d kk bl fa fc va vc nf nv) (m := 1) (f := 0) [31] (fun _ h => h) (by kernel_rfl) T6.out.1 ?_
          simp only [List.filterMap_cons, List.filterMap_nil, List.getElem?_toArray, List.getElem?_cons_zero, List.getElem?_cons_succ]
          show wpQuiet _ _ _ _ [_] _
          iterate 1 (go_big_quiet_step ((intros; rfl)))
          refine wpQuiet_nil ?_
          show Region.seqB _ _ _ _ _ = true ∧ _
          refine ⟨by kernel_rfl, ?_⟩
          simp only [Act.put, List.getElem_toArray, List.getElem_cons_zero, List.getElem_cons_succ, List.setIfInBounds_toArray, List.set_cons_zero, List.set_cons_succ, List.drop_succ_cons, List.drop_zero]
          go_wp2
          refine NoPanic.normal ?_
          go_wp2_with fail
          go_roundw
          case rel => exact ⟨k + 1, S7, F7, V7, bl, sp, by omega, by go_num, F6⟩
          case measure => simp [intOf]; omega
        · obtain rfl : k = len0 := by omega
          clear hkl
          have hkl : ¬ k < k := by omega
          go_wp2_with fail
          refine (alive_any _).mono ?_
          rintro e w5 ⟨rfl, hb⟩
          have HB := Lib.hid (HL.out.1.below hb).bel
          clear hb HL
          go_wp2_with fail
          go_ret
          exact ⟨rfl, HB.out⟩
end Go.Proofs.Ytkeclanbebiogaa
