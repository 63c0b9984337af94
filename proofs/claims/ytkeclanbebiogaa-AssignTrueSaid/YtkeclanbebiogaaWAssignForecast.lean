/- The walk of AssignForecast. -/
import Derived.Test.YtkeclanbebiogaaUOwn
import Derived.Test.YtkeclanbebiogaaRFore
import Derived.OpenShut
import Derived.Outline
namespace Go.Proofs.Ytkeclanbebiogaa
open Go Go.RowKit Go.OpenShut
set_option linter.unusedVariables false
set_option linter.unusedSimpArgs false
set_option maxRecDepth 100000

theorem u32_of {x : Int} (h : (Lit.int .u32 x).wf = true) : 0 ≤ x ∧ x ≤ 4294967295 := by
  simp [Lit.wf, IntKind.min, IntKind.max, IntKind.signed, IntKind.bits] at h
  omega
/-- The law's list of weights, as far as k. -/
def wide (z : List Int) (k : Nat) : List Value := (z.take k).map (Value.int .u64)
theorem wide_succ {z : List Int} {k : Nat} (h : k < z.length) : wide z (k + 1) = wide z k ++ [.int .u64 (z.getD k 0)] := by
  rw [wide, wide, List.take_succ_eq_append_getElem h, List.map_append, List.getD_eq_getElem?_getD, List.getElem?_eq_getElem h]
  rfl
theorem told_agree {bal lim : Int} {z G W : List Int} {n : Nat} (h0 : 0 ≤ lim) (hg : Told bal lim z G z.length) (hw : RTold bal lim z W n) (hn : n ≤ z.length) : G.take n = W := by
  refine List.ext_getElem (by have := hg.1; have := hw.1; simp; omega) fun i h1 h2 => ?_
  have hi : i < n := by have := hw.1; omega
  have e := (hg.2 i (by omega)).at h0 (hw.2 i hi).1 (by have := (hw.2 i hi).2; omega)
  rw [List.getElem_take]
  simp [List.getD_eq_getElem?_getD] at e
  rw [List.getElem?_eq_getElem (by have := hg.1; omega), List.getElem?_eq_getElem h2] at e
  simpa using e
/-- What is told of an exit that the reference does not reach. -/
theorem told_late {bal lim : Int} {z G : List Int} {n i : Nat} (h0 : 0 ≤ lim) (hz : ∀ i, 0 ≤ z.getD i 0) (hg : Told bal lim z G z.length) (hs : n = z.length ∨ bal + 300 * lim < sumTo z (n + 1)) (hi : i < z.length) (hn : n ≤ i) (b0 : 0 ≤ bal) :
    (G.getD i 0 = -1 ∧ (lim = 0 ∨ 2147483648 * lim < sumTo z z.length)) ∨ 300 < G.getD i 0 := by
  have hf := hg.2 i hi
  have h1 : bal + 300 * lim < sumTo z (i + 1) := by
    have := sumTo_mono hz (n + 1) (i - n)
    rw [show n + 1 + (i - n) = i + 1 by omega] at this
    omega
  rcases hf.late h0 h1 with h | h
  · refine .inl ⟨h, ?_⟩
    rcases hf with ⟨_, h2⟩ | ⟨_, h2⟩
    · have := h2.1; omega
    · have := sumTo_mono hz (i + 1) (z.length - (i + 1))
      rw [show i + 1 + (z.length - (i + 1)) = z.length by omega] at this
      exact .inr (by omega)
  · exact .inr h
theorem sumTo_cap {z : List Int} (hz : ∀ i, z.getD i 0 ≤ 4294967295) : ∀ k : Nat, sumTo z k ≤ (k : Int) * 4294967295
  | 0 => by simp [sumTo]
  | k + 1 => by have := sumTo_cap hz k; have := hz k; simp only [sumTo]; omega
set_option maxHeartbeats 3200000 in
theorem walk_AssignForecast (a0 : Int) (a1 : Int) (a2 : Option Addr) (len2 cap2 : Nat) (z2 : List Int) (w : World) (w0 : (Lit.int .u32 a0).wf = true) (w1 : (Lit.int .u32 a1).wf = true) (w2 : IsRow .u32 w a2 len2 cap2 z2) :
    Calls Try.prog 7 #[.int .u32 a0, .int .u32 a1, .slice a2 len2 cap2] w fun e w' => e = .returned (.bool true) ∧ Below w.heap.size w w' := by
  obtain ⟨j0, hj0, hz0, hz1, hz2⟩ := u64_info
  obtain ⟨b0, b1⟩ := u32_of w0
  obtain ⟨l0, l1⟩ := u32_of w1
  obtain ⟨_, hl, _, hlz⟩ := w2.len_le
  have R := Lib.hid (Rd.of_row w2)
  have hzr : ∀ j, 0 ≤ (z2.take len2).getD j 0 ∧ (z2.take len2).getD j 0 ≤ 4294967295 := fun j => by
    rcases Nat.lt_or_ge j len2 with hj | hj
    · obtain ⟨b, off, e, hb, hc⟩ := R.out (by omega)
      have := u32_of (hc j hj).2
      rwa [show (z2.take len2).getD j 0 = z2.getD j 0 by simp [List.getD_eq_getElem?_getD, List.getElem?_take_of_lt hj]]
    · rw [List.getD_eq_getElem?_getD, List.getElem?_eq_none (by simp; omega)]
      exact ⟨Int.le_refl 0, show (0 : Int) ≤ 4294967295 by decide⟩
  have hzl : (z2.take len2).length = len2 := by simp; omega
  have hrd : ∀ k, k < len2 → ∃ b off, a2 = some ⟨b, off, none⟩ ∧ b < w.heap.size ∧ w.cell? ⟨b, off + k, none⟩ = some (.int .u32 ((z2.take len2).getD k 0)) := fun k hk => by
    obtain ⟨b, off, e, hb, hc⟩ := R.out (by omega)
    exact ⟨b, off, e, hb, by rw [(hc k hk).1]; simp [List.getD_eq_getElem?_getD, List.getElem?_take_of_lt hk]⟩
  generalize z2.take len2 = z at *
  have HR := Lib.hid hrd
  have HZ := Lib.hid hzr
  have HN := Lib.hid hzl
  clear w0 w1 w2 R hzr hzl hrd hlz
  by_cases h60 : (60 : Int) < (len2 : Int)
  · go_enter Try.func7, Try.ntmps7
    go_wp2_with fail
    refine (alive_any _).mono ?_
    rintro e w1 ⟨rfl, hb⟩
    have HB := Lib.hid hb
    clear hb
    go_wp2_with fail
    go_ret
    exact ⟨rfl, HB.out⟩
  · go_enter Try.func7, Try.ntmps7
    go_wp2
    generalize hq : w.heap.size = q at *
    have HQ := Lib.hid hq
    clear hq
    go_loopw [7, 23] (fun s7 s23 wr => ∃ (k : Nat) (a : Option Addr) (c : Nat), k ≤ len2 ∧ s23 = .int .i64 k ∧ s7 = .slice a k c ∧ Hid (wr.ownsRow q 35 1 (.slice a k c) k (wide z k)) ∧ Hid (Below q w wr ∧ q ≤ wr.heap.size)) (fun _ s23 _ => len2 - (intOf s23).toNat)
    case atStart => exact ⟨0, none, 0, by omega, rfl, rfl, Lib.hid (World.ownsRow_nil _ _ _ _), Lib.hid ⟨Below.refl _ _, by rw [← HQ.out]; exact Nat.le_refl _⟩⟩
    case round =>
      obtain ⟨k, a, c, hk, rfl, rfl, HO, HW⟩ := hrel
      by_cases hlt : k < len2
      · obtain ⟨b, off, rfl, hb, hc⟩ := HR.out k hlt
        have hcell := (HW.out.1.cell (p := ⟨b, off + k, none⟩) hb).trans hc
        obtain ⟨x0, x1⟩ := HZ.out k
        have HSN := Lib.hid (wide_succ (z := z) (k := k) (by rw [HN.out]; exact hlt))
        generalize z.getD k 0 = x at *
        have HO3 : Hid ((wr.alloc (.cells #[.int .u64 x] 35)).ownsRow q 35 1 (.slice a k c) k (wide z k) ∧ Below q w (wr.alloc (.cells #[.int .u64 x] 35)) ∧ q ≤ wr.heap.size) := Lib.hid ⟨HO.out.alloc _, HW.out.1.alloc HW.out.2 _, HW.out.2⟩
        clear hc HO HW
        go_wp2_with (at_builtin; refine wpList_append_own _ rfl (.tmp 27) (.tmp 30) 23 rfl q 35 j0 (.int .u64 0) 1 8 Try.underlying23 hj0 hz0 hz1 hz2 rfl (by decide) _ _ _ rfl HO3.out.1 ⟨wr.heap.size, 0, none⟩ 1 1 [.int .u64 x] rfl rfl ?d1 ?d2 ?d3 ?d4 ?d5 ?_)
        case d1 =>
          intro j u hj
          match j, hj with
          | 0, hj => simp at hj; subst hj; simp [Addr.add]
        case d2 => intro u hu; simp at hu; subst hu; rfl
        case d3 => unfold maxLen; omega
        case d4 => omega
        case d5 => have := HO3.out.2.2; simp; omega
        intro v' w3 hown3 hgrow3 _
        have hbl : ∀ i, (Value.slice a k c).ownBlock = some i → q ≤ i := fun i hi => (HO3.out.1.lt i hi).1
        have HO4 : Hid (w3.ownsRow q 35 1 v' (k + 1) (wide z (k + 1))) := Lib.hid (by rw [HSN.out]; exact hown3)
        have HW4 : Hid (Below q w w3 ∧ q ≤ w3.heap.size) := Lib.hid ⟨HO3.out.2.1.grown hgrow3 (by have := HO3.out.2.2; simp; omega) (fun i hi => hbl i hi), by have := hgrow3.size; have := HO3.out.2.2; simp at *; omega⟩
        obtain ⟨a3, c3, rfl⟩ := owns_slice'' hown3
        clear hown3 hgrow3 HO3 hbl hcell HSN
        go_wp2
        go_roundw
        case rel => exact ⟨k + 1, a3, c3, by omega, by go_num, rfl, HO4, HW4⟩
        case measure => simp [intOf]; omega
      · obtain rfl : k = len2 := by omega
        have ho := HO.out
        rw [wide, List.take_of_length_le (by rw [HN.out]; exact Nat.le_refl _)] at ho
        obtain ⟨a', c', e1, e2, e3, hu⟩ := amts_of_owns (S := fun _ => False) ho (fun _ _ h => h)
        injection e1 with e1 _ e4
        subst e1 e4
        have hzz : ∀ i, 0 ≤ z.getD i 0 := fun i => (HZ.out i).1
        have H1 := Lib.hid (forecast_any (bal := a0) (lim := a1) (cap := c) hu (fun j => ⟨(HZ.out j).1, by have := (HZ.out j).2; omega⟩) (by omega) b0 (by omega) l0 (by omega))
        have H2 := Lib.hid (fun w2 (hb : Below wr.heap.size wr w2) => rforecast_any (bal := a0) (lim := a1) (cap := c) (hu.below hb) (fun j => ⟨(HZ.out j).1, by have := (HZ.out j).2; omega⟩) (by omega) b0 (by omega) l0 (by omega))
        have HU := Lib.hid hu
        rw [HN.out] at H1 H2
        clear ho e2 e3 hu hlt HO HR
        have hlt : ¬ k < k := by omega
        go_wp2_with fail
        refine H1.out.mono ?_
        rintro e w2 ⟨ag, cg, G, rfl, hG, og, bg⟩
        have HG := Lib.hid hG
        have BG := Lib.hid bg
        have ogo := og.out
        rw [HN.out] at ogo ⊢
        obtain ⟨ag', cg', eg, _, hgc, hgm, ig⟩ := ints_of_owns (S := fun _ => False) ogo (fun _ _ h => h)
        injection eg with eg1 _ eg2
        subst eg1 eg2
        have IG := Lib.hid ig
        clear hG bg ogo og ig H1
        go_wp2_with fail
        refine (H2.out _ BG.out).mono ?_
        rintro e w4 ⟨n, an, cn, W, rfl, hn, hW, hs, ow, bw⟩
        obtain ⟨an', cn', ew, hwl, _, _, iw⟩ := ints_of_owns (S := fun _ => False) ow.out (fun _ _ h => h)
        injection ew with ew1 _ ew2
        subst ew1 ew2
        rw [HN.out] at hn
        have IW := Lib.hid iw
        have IG4 := Lib.hid (IG.out.below bw)
        have BW : Hid (Below q w w4) := Lib.hid (HW.out.1.trans ((BG.out.trans (bw.mono BG.out.size)).mono HW.out.2))
        have UW := Lib.hid (HU.out.below (BG.out.trans (bw.mono BG.out.size)))
        have hGW := told_agree l0 HG.out hW (by rw [HN.out]; exact hn)
        have HE : Hid (IntsAt w4 (fun _ => False) ag W) := Lib.hid (by rw [← hGW]; exact IG4.out.take (by have := HG.out.1; have := HN.out; omega))
        have HL : Hid (∀ i, i < k → n ≤ i → (G.getD i 0 = -1 ∧ (a1 = 0 ∨ 2147483648 * a1 < sumTo z k)) ∨ 300 < G.getD i 0) := Lib.hid (fun i hi hni => by
          have := told_late (i := i) l0 hzz HG.out hs (by rw [HN.out]; exact hi) hni b0
          rwa [HN.out] at this)
        have HGL : Hid (G.length = k) := Lib.hid (by rw [HG.out.1, HN.out])
        have HGB : Hid (∀ i, i < k → -1 ≤ G.getD i 0 ∧ G.getD i 0 ≤ 2147483648) := Lib.hid (fun i hi => (HG.out.2 i (by rw [HN.out]; exact hi)).bound)
        have HQ := Lib.hid (equal_same (n := n) (c := cg) (d := cn) HE.out IW.out hwl (by omega))
        have hmin : min (n : Int) (k : Int) = (n : Int) := by omega
        have hkn : ¬ (k : Int) < (n : Int) := by omega
        clear hGW hW hs ow bw iw hwl H2 BG IG HU HG IW HE HW hzz
        go_wp2_with fail
        refine HQ.out.mono ?_
        rintro e w5 ⟨rfl, qd, hqd⟩
        have U5 : Hid (UAt w5 (fun _ => False) a z) := Lib.hid (hqd ▸ UW.out.drewN qd)
        have I5 : Hid (IntsAt w5 (fun _ => False) ag G) := Lib.hid (hqd ▸ IG4.out.drewN qd)
        have B5 : Hid (Below q w w5) := Lib.hid (hqd ▸ below_drewN BW.out qd)
        clear hqd UW IG4 BW HQ hmin
        go_wp2_with fail
        go_loop [12, 71] (fun s12 s71 => ∃ j : Nat, j ≤ k ∧ s71 = .int .i64 j ∧ s12 = .int .u64 (sumTo z j)) (fun _ s71 => k - (intOf s71).toNat)
        case atStart => exact ⟨0, by omega, rfl, rfl⟩
        case round =>
          obtain ⟨j, hj, rfl, rfl⟩ := hrel
          have hs0 := sumTo_nonneg (fun i => (HZ.out i).1) j
          have hs1 := sumTo_cap (fun i => (HZ.out i).2) j
          have hs2 : sumTo z j ≤ 257698037760 := by omega
          clear hs1
          by_cases hjk : j < k
          · obtain ⟨b, off, rfl, _, _, hc⟩ := U5.out (by rw [HN.out]; omega)
            have hcell := hc j (by rw [HN.out]; exact hjk)
            obtain ⟨x0, x1⟩ := HZ.out j
            have HS : Hid (sumTo z (j + 1) = sumTo z j + z.getD j 0) := Lib.hid rfl
            clear hc
            generalize z.getD j 0 = x at *
            go_wp2
            go_round
            case rel => exact ⟨j + 1, by omega, by go_num, by rw [HS.out]⟩
            case measure => simp [intOf]; omega
          · obtain rfl : j = k := by omega
            clear hjk
            have hjk : ¬ j < j := by omega
            have HSJ : Hid (∃ s, sumTo z j = s) := Lib.hid ⟨_, rfl⟩
            obtain ⟨s, hs⟩ := HSJ.out
            rw [hs] at HL hs0 hs2 ⊢
            clear HSJ hs
            by_cases hnj : n = j
            · subst hnj
              have hnn : ¬ (n : Int) < 0 := by omega
              clear HL HGB HGL
              go_wp2_with fail
              all_goals
                go_loop [84] (fun s84 => s84 = .int .i64 0) (fun _ => 0)
                case atStart => rfl
                case round =>
                  subst hrel
                  go_wp2_with fail
                  refine (alive_any _).mono ?_
                  rintro e w6 ⟨rfl, hb⟩
                  have HB := Lib.hid (B5.out.trans (hb.mono (by rw [← HQ.out]; exact B5.out.size)))
                  clear hb
                  go_wp2_with fail
                  go_ret
                  exact ⟨rfl, by rw [HQ.out]; exact HB.out⟩
            · have hnj2 : n < j := by omega
              obtain ⟨b, off, rfl, _, _, hc⟩ := I5.out (by rw [HGL.out]; omega)
              have HC : Hid (∀ i, i < j - n → w5.cell? ⟨b, off + n + i, none⟩ = some (.int .i64 (G.getD (n + i) 0))) := Lib.hid (fun i hi => by
                have := hc (n + i) (by rw [HGL.out]; omega)
                rwa [show off + (n + i) = off + n + i by omega] at this)
              obtain ⟨r, hr⟩ : ∃ r, j - n = r := ⟨_, rfl⟩
              have HRJ := Lib.hid hr
              rw [hr] at HC
              clear hc hnj
              go_wp2_with fail
              go_loop [84] (fun s84 => ∃ i : Nat, i ≤ r ∧ s84 = .int .i64 i) (fun s84 => r - (intOf s84).toNat)
              case atStart => exact ⟨0, by omega, rfl⟩
              case round =>
                obtain ⟨i, hi, rfl⟩ := hrel
                by_cases hir : i < r
                · have hcell := HC.out i hir
                  have hv := HL.out (n + i) (by have := HRJ.out; omega) (by omega)
                  have hvb := HGB.out (n + i) (by have := HRJ.out; omega)
                  generalize G.getD (n + i) 0 = v at *
                  obtain ⟨v0, v1⟩ := hvb
                  have HV := Lib.hid hv
                  clear hv
                  rcases HV.out with ⟨hv, hl | hl⟩ | hv
                  · subst hv
                    have h1 : decide ((0 : Int) < a1) = false := by simp; omega
                    have h2 : ¬ (0 : Int) < a1 := by omega
                    go_wp2_with fail
                    go_round
                    case rel => exact ⟨i + 1, by omega, by go_num⟩
                    case measure => simp [intOf]; omega
                  · subst hv
                    by_cases hl0 : a1 = 0
                    · have h1 : decide ((0 : Int) < a1) = false := by simp; omega
                      have h2 : ¬ (0 : Int) < a1 := by omega
                      go_wp2_with fail
                      go_round
                      case rel => exact ⟨i + 1, by omega, by go_num⟩
                      case measure => simp [intOf]; omega
                    · have h2 : (0 : Int) < a1 := by omega
                      have h3 : decide ((0 : Int) < a1) = true := by simp; omega
                      go_wp2_with fail
                      go_round
                      case rel => exact ⟨i + 1, by omega, by go_num⟩
                      case measure => simp [intOf]; omega
                  · have h1 : ¬ v = -1 := by omega
                    have h2 : (v == -1) = false := by simp; omega
                    have h3 : (v != -1) = true := by simp; omega
                    have h4 : ¬ v ≤ 300 := by omega
                    have h5 : decide (v ≤ 300) = false := by simp; omega
                    go_wp2_with fail
                    go_round
                    case rel => exact ⟨i + 1, by omega, by go_num⟩
                    case measure => simp [intOf]; omega
                · obtain rfl : i = r := by omega
                  clear hir
                  have hir : ¬ i < i := by omega
                  go_wp2_with fail
                  refine (alive_any _).mono ?_
                  rintro e w6 ⟨rfl, hb⟩
                  have HB := Lib.hid (B5.out.trans (hb.mono (by rw [← HQ.out]; exact B5.out.size)))
                  clear hb
                  go_wp2_with fail
                  go_ret
                  exact ⟨rfl, by rw [HQ.out]; exact HB.out⟩
end Go.Proofs.Ytkeclanbebiogaa
