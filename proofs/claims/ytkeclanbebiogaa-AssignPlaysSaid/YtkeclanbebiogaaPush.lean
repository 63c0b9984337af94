/- Lanes, a meter and the reference's lanes; push. -/
import Derived.Test.YtkeclanbebiogaaRounds
import Derived.Test.YtkeclanbebiogaaRefP
namespace Go.Proofs.Ytkeclanbebiogaa
open Go Go.RowKit
set_option linter.unusedVariables false
set_option linter.unusedSimpArgs false
set_option maxRecDepth 100000

/-- A queue behind many exits: as many as there is room for. -/
def pAll (n : Nat) (F L : List Int) : List Int := F ++ L.take (n - F.length)
theorem pAll_nil (n : Nat) (F : List Int) : pAll n F [] = F := by simp [pAll]
theorem pAll_len (n : Nat) (F L : List Int) : (pAll n F L).length ≤ F.length + L.length := by simp [pAll]; omega
theorem pAll_room {n : Nat} {F L : List Int} (h : F.length + L.length ≤ n) : pAll n F L = F ++ L := by
  rw [pAll, List.take_of_length_le (by omega)]
theorem pAll_step {n k : Nat} {F L : List Int} (hk : k < L.length) : (if (pAll n F (L.take k)).length < n then pAll n F (L.take k) ++ [L.getD k 0] else pAll n F (L.take k)) = pAll n F (L.take (k + 1)) := by
  have hl : (pAll n F (L.take k)).length = F.length + min (n - F.length) k := by simp [pAll]; omega
  rw [hl]
  by_cases h : k < n - F.length
  · rw [if_pos (by omega), pAll, pAll, List.take_take, List.take_take, show min (n - F.length) k = k by omega, show min (n - F.length) (k + 1) = k + 1 by omega, List.take_succ_eq_append_getElem hk, List.append_assoc]
    congr 2
    rw [List.getD_eq_getElem?_getD, List.getElem?_eq_getElem hk]
    rfl
  · rw [if_neg (by omega), pAll, pAll, List.take_take, List.take_take, show min (n - F.length) k = n - F.length by omega, show min (n - F.length) (k + 1) = n - F.length by omega]
theorem pushF_zero (n : Nat) (F : List Int) (x : Int) : pushF n F 0 x = if F.length < n then F ++ [x] else F := by simp [pushF]
theorem pushV_zero (n : Nat) (V : List Int) (x : Int) : pushV n V 0 x = V := by simp [pushV]
theorem pushF_one (n : Nat) (F : List Int) (x : Int) : pushF n F 1 x = F := by simp [pushF]
theorem pushV_one (n : Nat) (V : List Int) (x : Int) : pushV n V 1 x = if V.length < n then V ++ [x] else V := by simp [pushV]

/-- A law's lanes and meter, and the reference's lanes, apart; X: other blocks of the law, which the lanes leave alone. -/
def Law (w0 w : World) (b m d nn : Nat) (S X : Nat → Prop) (F V RF RV : List Int) (B Sp : Int) : Prop :=
  Pr w0 w b m nn S F V B Sp ∧ RefAt w (fun i => S i ∨ X i) d nn RF RV ∧ ¬ S d ∧ ¬ X d ∧ X m ∧ w0.heap.size ≤ d ∧ (∀ i, X i → w0.heap.size ≤ i ∧ i < w.heap.size) ∧ (∀ i, S i → ¬ X i)
def LawGo (w0 w : World) (b m d nn : Nat) (S X : Nat → Prop) (F V RF RV : List Int) (B Sp : Int) (w' : World) : Prop :=
  ∃ S', Hid (Law w0 w' b m d nn S' X F V RF RV B Sp) ∧ Hid (Kept (fun i => S i ∨ i = d) w w') ∧ Hid (∀ i, S' i → S i ∨ w.heap.size ≤ i)
section
variable {w0 w w1 w' : World} {b m d nn : Nat} {S S' X T : Nat → Prop} {F V F' V' RF RV : List Int} {B Sp : Int}
theorem Law.below (h : Law w0 w b m d nn S X F V RF RV B Sp) (k : Below w.heap.size w w') : Law w0 w' b m d nn S X F V RF RV B Sp := by
  obtain ⟨h1, h2, h3, h4, h5, h6, h7, h8⟩ := h
  exact ⟨h1.below k, h2.below k, h3, h4, h5, h6, fun i hi => ⟨(h7 i hi).1, Nat.lt_of_lt_of_le (h7 i hi).2 k.size⟩, h8⟩
theorem Law.drewN (h : Law w0 w b m d nn S X F V RF RV B Sp) (q : Nat) : Law w0 (w.drewN q) b m d nn S X F V RF RV B Sp := h.below (below_drewN (Below.refl _ _) q)
theorem Law.alloc (h : Law w0 w b m d nn S X F V RF RV B Sp) (o : Obj) : Law w0 (w.alloc o) b m d nn S X F V RF RV B Sp := h.below ((Below.refl _ _).alloc (Nat.le_refl _) o)
theorem Law.bel (h : Law w0 w b m d nn S X F V RF RV B Sp) : Below w0.heap.size w0 w := h.1.2.2.2.2.2
/-- The program's lanes have turned. -/
theorem Law.turned (h : Law w0 w b m d nn S X F V RF RV B Sp) {B' Sp' : Int} (p : Pr w0 w' b m nn S' F' V' B' Sp') (k : Kept (fun i => i = m ∨ S i) w w') (hS : ∀ i, S' i → S i ∨ w.heap.size ≤ i) : Law w0 w' b m d nn S' X F' V' RF RV B' Sp' := by
  obtain ⟨h1, h2, h3, h4, h5, h6, h7, h8⟩ := h
  have hd := h2.lt
  have r1 : RefAt w (fun i => (S i ∨ S' i) ∨ X i) d nn RF RV := h2.other (fun i hi e => e.elim (fun e => e.elim .inl (fun e => (hS i e).elim .inl (fun e => by omega))) .inr)
  have r2 := r1.kept k (fun e => e.elim (fun e => h4 (e ▸ h5)) h3) (fun i _ e => e.elim (fun e => .inr (e ▸ h5)) (fun e => .inl (.inl e)))
  refine ⟨p, r2.other (fun i _ e => e.elim (fun e => .inl (.inr e)) .inr), fun e => (hS d e).elim h3 (fun e => by omega), h4, h5, h6, fun i hi => ⟨(h7 i hi).1, Nat.lt_of_lt_of_le (h7 i hi).2 k.size⟩, fun i hi hx => (hS i hi).elim (fun e => h8 i e hx) (fun e => by have := (h7 i hx).2; omega)⟩
theorem Law.push (h : Law w0 w b m d nn S X F V RF RV B Sp) (c x : Int) : Calls Try.prog 27 #[.pointer (some ⟨b, 0, none⟩), .int .i64 c, .int .i64 x] w fun e w' => e = .returned (.int .i64 (errP nn F V c)) ∧ ∃ S', Hid (Law w0 w' b m d nn S' X (pushF nn F c x) (pushV nn V c x) RF RV B Sp) ∧ Hid (Goes S S' w w') := by
  refine (h.1.push c x).mono ?_
  rintro e w' ⟨he, S', p, g⟩
  exact ⟨he, S', Lib.hid (h.turned p.out (g.out.1.more (fun i _ e => .inr e)) g.out.2), g⟩
theorem Law.rpush (h : Law w0 w b m d nn S X F V RF RV B Sp) (c x : Int) : Calls Try.prog 30 #[.pointer (some ⟨d, 0, none⟩), .int .i64 c, .int .i64 x] w fun e w' => e = .returned (.int .i64 (errP nn RF RV c)) ∧ Hid (Law w0 w' b m d nn S X F V (pushF nn RF c x) (pushV nn RV c x) B Sp) ∧ Hid (Kept (fun i => i = d) w w') := by
  obtain ⟨h1, h2, h3, h4, h5, h6, h7, h8⟩ := h
  refine (rpush_any c x h2 (fun i e => e.elim (h1.1.lt i) (fun e => (h7 i e).2))).mono ?_
  rintro e w' ⟨he, hr, hk⟩
  exact ⟨he, Lib.hid ⟨h1.kept hk (fun i hi e => h3 (e ▸ hi)) (fun e => h4 (e ▸ h5)) (fun i e => by rw [show i = d from e]; exact h6), hr, h3, h4, h5, h6, fun i hi => ⟨(h7 i hi).1, Nat.lt_of_lt_of_le (h7 i hi).2 hk.size⟩, h8⟩, Lib.hid hk⟩
end
set_option maxHeartbeats 3200000 in
theorem push_round {w0 w : World} {b m d nn : Nat} {S X : Nat → Prop} {F V RF RV : List Int} {B Sp : Int} (r : Rnd) (h : Law w0 w b m d nn S X F V RF RV B Sp) (hr : RndAt w0 (fun _ => False) r) :
    Calls Try.prog 13 #[.pointer (some ⟨b, 0, none⟩), .pointer (some ⟨d, 0, none⟩), .agg (cellsR r)] w fun e w' => e = .returned (.tuple #[]) ∧ LawGo w0 w b m d nn S X (pAll nn F r.F) (pAll nn V r.V) (pAll nn RF r.F) (pAll nn RV r.V) B Sp w' := by
  obtain ⟨af, cf, FL, av, cv, VL, lim⟩ := r
  obtain ⟨hF, hV, hlF, hlV, _, _⟩ := hr
  dsimp only at hF hV hlF hlV ⊢
  obtain ⟨W, hW⟩ : ∃ W, W = w.alloc (.cells (cellsR ⟨af, cf, FL, av, cv, VL, lim⟩) 39) := ⟨_, rfl⟩
  have x0 : (w.alloc (.cells (cellsR ⟨af, cf, FL, av, cv, VL, lim⟩) 39)).cell? ⟨w.heap.size, 0, none⟩ = some (.slice af FL.length cf) := (Blk.new w _ (cellsR ⟨af, cf, FL, av, cv, VL, lim⟩)).cell 0
  have X1 : Hid (W.cell? ⟨w.heap.size, 1, none⟩ = some (.slice av VL.length cv)) := Lib.hid (by rw [hW]; exact (Blk.new w _ (cellsR ⟨af, cf, FL, av, cv, VL, lim⟩)).cell 1)
  have H0 : Hid (Law w0 W b m d nn S X F V RF RV B Sp) := Lib.hid (by rw [hW]; exact h.alloc _)
  have HZ : Hid (¬ S w.heap.size ∧ w.heap.size ≠ d ∧ w.heap.size < W.heap.size ∧ Kept (fun i => S i ∨ i = d) w W) := Lib.hid ⟨fun e => Nat.lt_irrefl _ (h.1.1.lt _ e), fun e => by have := h.2.1.lt; omega, by rw [hW]; simp, by rw [hW]; exact (Kept.refl _ w).alloc _⟩
  have HF := Lib.hid hF
  have HV := Lib.hid hV
  obtain ⟨nf, hnf⟩ : ∃ nf, FL.length = nf := ⟨_, rfl⟩
  obtain ⟨nv, hnv⟩ : ∃ nv, VL.length = nv := ⟨_, rfl⟩
  have HNF := Lib.hid hnf
  have HNV := Lib.hid hnv
  rw [hnf] at x0 hlF
  rw [hnv] at X1 hlV
  clear hF hV h hnf hnv
  go_enter Try.func13, Try.ntmps13
  go_wp2
  rw [← hW] at *
  clear hW x0
  generalize hz : w.heap.size = z at *
  have HZZ := Lib.hid hz
  clear hz
  go_loopw [13] (fun s13 wr => ∃ (k : Nat) (S1 : Nat → Prop), k ≤ nf ∧ s13 = .int .i64 k ∧ Hid (Law w0 wr b m d nn S1 X (pAll nn F (FL.take k)) V (pAll nn RF (FL.take k)) RV B Sp) ∧ Hid (Kept (fun i => S i ∨ i = d) W wr) ∧ Hid (∀ i, S1 i → S i ∨ W.heap.size ≤ i)) (fun s13 _ => nf - (intOf s13).toNat)
  case atStart => exact ⟨0, S, by omega, rfl, by rw [List.take_zero, pAll_nil, pAll_nil]; exact H0, Lib.hid (Kept.refl _ _), Lib.hid (fun i hi => .inl hi)⟩
  case round =>
    clear H0
    obtain ⟨k, S1, hk, rfl, HL, HK, HS⟩ := hrel
    by_cases hlt : k < nf
    · obtain ⟨fb, fo, rfl, _, hfl, hfc⟩ := HF.out (by rw [HNF.out]; omega)
      have hcell : wr.cell? ⟨fb, fo + k, none⟩ = some (.int .i64 (FL.getD k 0)) := (HL.out.bel.cell (p := ⟨fb, fo + k, none⟩) hfl).trans (hfc k (by rw [HNF.out]; exact hlt))
      have e1 := pAll_step (n := nn) (F := F) (L := FL) (k := k) (by rw [HNF.out]; exact hlt)
      have e2 := pAll_step (n := nn) (F := RF) (L := FL) (k := k) (by rw [HNF.out]; exact hlt)
      have E1 := Lib.hid (And.intro e1 e2)
      clear hfc hfl e1 e2
      generalize FL.getD k 0 = x at *
      go_wp2_with fail
      refine (HL.out.push 0 x).mono ?_
      rintro e w2 ⟨rfl, S2, L2, G2⟩
      go_wp2_with fail
      refine (L2.out.rpush 0 x).mono ?_
      rintro e w3 ⟨rfl, L3, K3⟩
      have L4 : Hid (Law w0 w3 b m d nn S2 X (pAll nn F (FL.take (k + 1))) V (pAll nn RF (FL.take (k + 1))) RV B Sp) := Lib.hid (by
        have := L3.out
        rwa [pushF_zero, pushV_zero, pushF_zero, pushV_zero, E1.out.1, E1.out.2] at this)
      have K4 : Hid (Kept (fun i => S i ∨ i = d) W w3) := Lib.hid ((HK.out.trans G2.out.1 (fun i hi e => (HS.out i e).elim .inl (fun e => by omega))).trans K3.out (fun i _ e => .inr e))
      have S4 : Hid (∀ i, S2 i → S i ∨ W.heap.size ≤ i) := Lib.hid (fun i hi => (G2.out.2 i hi).elim (HS.out i) (fun e => .inr (Nat.le_trans HK.out.size e)))
      clear L2 G2 L3 K3 HL HK HS E1 hcell
      go_wp2
      go_roundw
      case rel => exact ⟨k + 1, S2, by omega, by go_num, L4, K4, S4⟩
      case measure => simp [intOf]; omega
    · obtain rfl : k = nf := by omega
      clear hlt
      have hlt : ¬ k < k := by omega
      have hfull : FL.take k = FL := List.take_of_length_le (by rw [HNF.out]; exact Nat.le_refl _)
      rw [hfull] at HL
      have y1 : wr.cell? ⟨z, 1, none⟩ = some (.slice av nv cv) := HK.out.cell (fun e => e.elim HZ.out.1 HZ.out.2.1) X1.out
      clear hfull
      go_wp2
      clear y1
      obtain ⟨U, hU⟩ : ∃ U, U = wr := ⟨_, rfl⟩
      subst hU
      go_loopw [27] (fun s27 wr => ∃ (k : Nat) (S2 : Nat → Prop), k ≤ nv ∧ s27 = .int .i64 k ∧ Hid (Law w0 wr b m d nn S2 X (pAll nn F FL) (pAll nn V (VL.take k)) (pAll nn RF FL) (pAll nn RV (VL.take k)) B Sp) ∧ Hid (Kept (fun i => S i ∨ i = d) W wr) ∧ Hid (∀ i, S2 i → S i ∨ W.heap.size ≤ i)) (fun s27 _ => nv - (intOf s27).toNat)
      case atStart => exact ⟨0, S1, by omega, rfl, by rw [List.take_zero, pAll_nil, pAll_nil]; exact HL, HK, HS⟩
      case round =>
        clear HL HK HS
        obtain ⟨j, S2, hj, rfl, HL, HK, HS⟩ := hrel
        by_cases hlt2 : j < nv
        · obtain ⟨fb, fo, rfl, _, hfl, hfc⟩ := HV.out (by rw [HNV.out]; omega)
          have hcell : wr.cell? ⟨fb, fo + j, none⟩ = some (.int .i64 (VL.getD j 0)) := (HL.out.bel.cell (p := ⟨fb, fo + j, none⟩) hfl).trans (hfc j (by rw [HNV.out]; exact hlt2))
          have e1 := pAll_step (n := nn) (F := V) (L := VL) (k := j) (by rw [HNV.out]; exact hlt2)
          have e2 := pAll_step (n := nn) (F := RV) (L := VL) (k := j) (by rw [HNV.out]; exact hlt2)
          have E1 := Lib.hid (And.intro e1 e2)
          clear hfc hfl e1 e2
          generalize VL.getD j 0 = x at *
          go_wp2_with fail
          refine (HL.out.push 1 x).mono ?_
          rintro e w2 ⟨rfl, S3, L2, G2⟩
          go_wp2_with fail
          refine (L2.out.rpush 1 x).mono ?_
          rintro e w3 ⟨rfl, L3, K3⟩
          have L4 : Hid (Law w0 w3 b m d nn S3 X (pAll nn F FL) (pAll nn V (VL.take (j + 1))) (pAll nn RF FL) (pAll nn RV (VL.take (j + 1))) B Sp) := Lib.hid (by
            have := L3.out
            rwa [pushF_one, pushV_one, pushF_one, pushV_one, E1.out.1, E1.out.2] at this)
          have K4 : Hid (Kept (fun i => S i ∨ i = d) W w3) := Lib.hid ((HK.out.trans G2.out.1 (fun i hi e => (HS.out i e).elim .inl (fun e => by omega))).trans K3.out (fun i _ e => .inr e))
          have S4 : Hid (∀ i, S3 i → S i ∨ W.heap.size ≤ i) := Lib.hid (fun i hi => (G2.out.2 i hi).elim (HS.out i) (fun e => .inr (Nat.le_trans HK.out.size e)))
          clear L2 G2 L3 K3 HL HK HS E1 hcell
          go_wp2
          go_roundw
          case rel => exact ⟨j + 1, S3, by omega, by go_num, L4, K4, S4⟩
          case measure => simp [intOf]; omega
        · obtain rfl : j = nv := by omega
          clear hlt2
          have hlt2 : ¬ j < j := by omega
          have hfull : VL.take j = VL := List.take_of_length_le (by rw [HNV.out]; exact Nat.le_refl _)
          rw [hfull] at HL
          clear hfull
          have HE : Hid (LawGo w0 w b m d nn S X (pAll nn F FL) (pAll nn V VL) (pAll nn RF FL) (pAll nn RV VL) B Sp wr) := Lib.hid ⟨S2, HL, Lib.hid (HZ.out.2.2.2.trans HK.out (fun _ _ h => h)), Lib.hid (fun i hi => (HS.out i hi).imp id (fun e => Nat.le_trans HZ.out.2.2.2.size e))⟩
          clear HL HK HS
          go_wp2
          go_end0
          exact ⟨rfl, HE.out⟩
end Go.Proofs.Ytkeclanbebiogaa
