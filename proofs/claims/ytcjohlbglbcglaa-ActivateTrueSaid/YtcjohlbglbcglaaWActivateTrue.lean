/- The walk of ActivateTrue. -/
import Derived.Test.YtcjohlbglbcglaaLive
import Derived.OpenShut
namespace Go.Proofs.Ytcjohlbglbcglaa
open Go Go.RowKit Go.OpenShut
set_option linter.unusedVariables false
set_option linter.unusedSimpArgs false
set_option maxRecDepth 100000

theorem bnd_map_next {lim : Int} {om : Int → Int} {M : List Int} (h : 0 < M.length) : bnd lim (M.map om) = 1 + bnd lim ((M.drop (bat lim (M.map om))).map om) := by
  have := bnd_next (lim := lim) (X := M.map om) (by rw [List.length_map]; exact h)
  rwa [← List.map_drop] at this
theorem bnd_map_len {lim : Int} {om : Int → Int} {M : List Int} (h : 0 < bnd lim (M.map om)) : 0 < M.length := by
  rcases Nat.eq_zero_or_pos M.length with h0 | h0
  · rw [List.eq_nil_of_length_eq_zero h0] at h
    exact absurd h (by simp [bnd_nil])
  · exact h0
theorem bnd_map_zero {lim : Int} {om : Int → Int} {M : List Int} (h : bnd lim (M.map om) = 0) : M.length = 0 := by
  rcases Nat.eq_zero_or_pos M.length with h0 | h0
  · exact h0
  · have := bnd_pos (lim := lim) (X := M.map om) (by rw [List.length_map]; exact h0)
    omega
set_option maxHeartbeats 1600000 in
theorem walk_ActivateTrue (a0 : Option Addr) (len0 cap0 : Nat) (z0 : List Int) (a1 : Int) (a2 : Option Addr) (len2 cap2 : Nat) (z2 : List Int) (w : World) (w0 : IsRow .i64 w a0 len0 cap0 z0) (w1 : (Lit.int .u64 a1).wf = true) (w2 : IsRow .u64 w a2 len2 cap2 z2) :
    Calls Try.prog 7 #[.slice a0 len0 cap0, .int .u64 a1, .slice a2 len2 cap2] w fun e w' => e = .returned (.bool true) ∧ Below w.heap.size w w' := by
  obtain ⟨hu, hl2, hm2, hA⟩ := UAt.of_row w2
  obtain ⟨hi, hl0, hc0, hm0⟩ := IntsAt.of_row (S := fun i => w.heap.size ≤ i) w0 (fun i h1 h2 => by omega)
  have hlim : Amt a1 := u64_of w1
  generalize z0.take len0 = I at *
  generalize z2.take len2 = L at *
  subst hl2
  have HU := Lib.hid hu
  have HI := Lib.hid hi
  have HA := Lib.hid (And.intro hA hlim)
  clear w0 w1 w2 hu hi hA hlim
  by_cases h0 : (40 : Int) < (len0 : Int)
  · go_enter Try.func7, Try.ntmps7
    go_wp2_with fail
    refine (alive_any _).mono ?_
    rintro e w1 ⟨rfl, hb⟩
    have HB := Lib.hid hb
    clear hb
    go_wp2_with fail
    go_ret
    exact ⟨rfl, HB.out⟩
  · by_cases h1 : (100 : Int) < (L.length : Int)
    · go_enter Try.func7, Try.ntmps7
      go_wp2_with fail
      refine (alive_any _).mono ?_
      rintro e w1 ⟨rfl, hb⟩
      have HB := Lib.hid hb
      clear hb
      go_wp2_with fail
      go_ret
      exact ⟨rfl, HB.out⟩
    · obtain ⟨m, hm⟩ : ∃ m, L.length = m := ⟨_, rfl⟩
      by_cases h2 : m = 0
      · subst h2
        rw [hm]
        go_enter Try.func7, Try.ntmps7
        go_wp2_with fail
        refine (alive_any _).mono ?_
        rintro e w1 ⟨rfl, hb⟩
        have HB := Lib.hid hb
        clear hb
        go_wp2_with fail
        go_ret
        exact ⟨rfl, HB.out⟩
      · obtain ⟨b2, o2, ha2, -, hb2, hc2⟩ := HU.out (by omega)
        have hcell := hc2 0 (by omega)
        subst ha2
        have hx : Amt (L.getD 0 0) := HA.out.1 0
        have hx0 : wOf L 0 = L.getD 0 0 := wOf_in (k := 0) (by omega)
        have HM := Lib.hid hm
        obtain ⟨s, hs⟩ : ∃ s : Nat, len0 + 1 = s := ⟨_, rfl⟩
        have hs1 : (len0 : Int) + 1 = (s : Int) := by omega
        have hss : 1 ≤ s := by omega
        have hst : s ≤ 41 := by omega
        have HN := Lib.hid (ri_new_some s w hss (by omega))
        have hQ := qown_new (w0 := w) (w := w) (Below.refl _ _) hss (by omega)
        have hI := hQ.ints HI.out
        have HP := Lib.hid (hQ.push hI (by rw [hl0]; exact hc0) hm0 (by rw [hl0]; simp; omega))
        rw [hl0] at HP
        have HC2 := Lib.hid (fun w' (hb' : Below w.heap.size w w') => (hb'.cell (p := ⟨b2, o2 + 0, none⟩) hb2).trans hcell)
        have hX : bnd a1 (I.map (wOf L) ++ [L.getD 0 0]) = bnd a1 ((I ++ [0]).map (wOf L)) := by rw [List.map_append, List.map_cons, List.map_nil, hx0]
        have HX1 := Lib.hid hX
        generalize L.getD 0 0 = x at *
        have HX := Lib.hid hx
        have hkle : bnd a1 ((I ++ [0]).map (wOf L)) ≤ s := by
          have := bnd_le (lim := a1) ((I ++ [0]).map (wOf L))
          rw [List.length_map, List.length_append, List.length_singleton, hl0] at this
          omega
        have hkpos : 0 < bnd a1 ((I ++ [0]).map (wOf L)) := bnd_pos (by simp)
        obtain ⟨k, hk⟩ : ∃ k, bnd a1 ((I ++ [0]).map (wOf L)) = k := ⟨_, rfl⟩
        rw [hk] at hkle hkpos HX1
        have HK := Lib.hid hk
        have HS := Lib.hid (And.intro hl0 hs)
        have hmm : ((m : Int) == 0) = false := by simp; omega
        rw [hm] at h1 ⊢
        clear hl0 hc2 hcell hx hm hx0 hX hQ hI hs hk
        go_enter Try.func7, Try.ntmps7
        go_wp2_with fail
        refine HN.out.mono ?_
        rintro e w1 ⟨rfl, rfl⟩
        generalize w.heap.size = b at HP ⊢
        clear HN
        go_wp2_with fail
        refine HP.out.mono ?_
        rintro e w2 ⟨rfl, go, hq, -⟩
        rw [List.nil_append] at hq
        have HQ1 := Lib.hid hq
        have hcell := HC2.out w2 hq.2.2
        rw [Nat.add_zero] at hcell
        have HW := Lib.hid (hq.wait (cap := cap2) (HU.out.below hq.2.2) hm2 HA.out.1 HA.out.2 HX.out)
        rw [HM.out, HX1.out] at HW
        clear HP hq
        go_wp2_with fail
        refine HW.out.mono ?_
        rintro e w3 ⟨rfl, hq3, -⟩
        have hi3 : IntsAt (w3.alloc (.cells #[.int .i64 0] 3)) (Foot b go) (some ⟨w3.heap.size, 0, none⟩) [0] := IntsAt.of_blk (L := [0]) (Blk.new w3 _ _) (fun h => Nat.lt_irrefl _ (hq3.1.lt _ h))
        have HP := Lib.hid ((hq3.alloc (.cells #[.int .i64 0] 3)).push (c := 1) hi3 (by simp) (by omega) (by rw [HS.out.1, HS.out.2.symm]; simp))
        rw [List.length_singleton] at HP
        clear HW hq3 hi3 HQ1 hcell
        go_wp2_with fail
        refine HP.out.mono ?_
        rintro e w4 ⟨rfl, go2, hq4, -⟩
        have HQ4 := Lib.hid hq4
        have hk1 : ¬ (k : Int) < 1 := by omega
        have hk2 : ¬ (s : Int) < (k : Int) := by omega
        have hd1 : decide ((k : Int) < 1) = false := by simp; omega
        have hd2 : decide (s < k) = false := by simp; omega
        obtain ⟨kk, hkk⟩ : ∃ kk, k = kk + 1 := ⟨k - 1, by omega⟩
        have hsub : (k : Int) - 1 = (kk : Int) := by omega
        have hkk2 : kk ≤ 100 := by omega
        have HKK := Lib.hid hkk
        clear HP hq4 hkk
        go_wp2_with fail
        have HS0 : Hid (QOwn w w4 b s go2 (I ++ [0]) ∧ bnd a1 ((I ++ [0]).map (wOf L)) + 0 = kk + 1) := Lib.hid ⟨HQ4.out, by have := HK.out; have := HKK.out; omega⟩
        clear HQ4 hk1 hk2 hkpos hkle
        go_loopw [61] (fun s61 wr => ∃ (i : Nat) (M : List Int), i ≤ kk ∧ s61 = .int .i64 i ∧ Hid (QOwn w wr b s go2 M ∧ bnd a1 (M.map (wOf L)) + i = kk + 1)) (fun s61 _ => kk - (intOf s61).toNat)
        case atStart => exact ⟨0, _, by omega, rfl, HS0⟩
        case round =>
          obtain ⟨i, M, hi, rfl, HR⟩ := hrel
          have hpos : 0 < M.length := bnd_map_len (lim := a1) (om := wOf L) (by have := HR.out.2; omega)
          have hnx := bnd_map_next (lim := a1) (om := wOf L) hpos
          have HST := HR.out.1.step (cap := cap2) (HR.out.1.uat HU.out) hm2 HA.out.1 HA.out.2
          rw [HM.out] at HST
          have HST := Lib.hid HST
          by_cases hlt : i < kk
          · have HNX : Hid (bnd a1 ((M.drop (bat a1 (M.map (wOf L)))).map (wOf L)) + (i + 1) = kk + 1) := Lib.hid (by have := HR.out.2; omega)
            have hne : ¬ (M.drop (bat a1 (M.map (wOf L)))).length = 0 := fun e => by
              have := HNX.out
              have h3 := bnd_map_len (lim := a1) (om := wOf L) (M := M.drop (bat a1 (M.map (wOf L)))) (by omega)
              omega
            generalize bat a1 (M.map (wOf L)) = B at *
            clear hnx hpos
            obtain ⟨M', hM'⟩ : ∃ M', M.drop B = M' := ⟨_, rfl⟩
            rw [hM'] at HNX hne HST
            obtain ⟨l, hl⟩ : ∃ l, M'.length = l := ⟨_, rfl⟩
            have hl0 : ((l : Int) == 0) = false := by simp; omega
            have HL := Lib.hid hl
            clear hM' hne hl HR
            go_wp2_with fail
            refine HST.out.mono ?_
            rintro e w5 ⟨a5, c5, rfl, -, -, -, hq5, -⟩
            have HQ5 := Lib.hid hq5
            have HLN := Lib.hid hq5.len
            rw [HL.out] at HLN
            clear hq5 HST
            go_wp2_with fail
            refine HLN.out.mono ?_
            rintro e w' ⟨rfl, rfl⟩
            go_wp2
            go_roundw
            case rel => exact ⟨i + 1, M', by omega, by go_num, Lib.hid ⟨HQ5.out, HNX.out⟩⟩
            case measure => simp [intOf]; omega
          · obtain rfl : i = kk := by omega
            have hz : (M.drop (bat a1 (M.map (wOf L)))).length = 0 := bnd_map_zero (lim := a1) (om := wOf L) (by have := HR.out.2; omega)
            have HZ := Lib.hid hz
            clear hz hnx hpos hlt
            have hlt : ¬ i < i := by omega
            go_wp2_with fail
            refine HST.out.mono ?_
            rintro e w5 ⟨a5, c5, rfl, -, -, -, hq5, -⟩
            have HQ5 := Lib.hid hq5
            clear hq5 HST HR
            go_wp2_with fail
            refine (alive_any _).mono ?_
            rintro e w6 ⟨rfl, hb⟩
            have HQ6 := Lib.hid (HQ5.out.below hb)
            have HLN := Lib.hid HQ6.out.len
            rw [HZ.out] at HLN
            clear hb HQ5
            go_wp2_with fail
            refine HLN.out.mono ?_
            rintro e w' ⟨rfl, rfl⟩
            go_wp2
            go_ret
            exact ⟨rfl, HQ6.out.2.2⟩
end Go.Proofs.Ytcjohlbglbcglaa
