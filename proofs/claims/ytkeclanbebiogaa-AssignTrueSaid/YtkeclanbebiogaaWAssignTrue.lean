/- The walk of AssignTrue. -/
import Derived.Test.YtkeclanbebiogaaVol
import Derived.Test.YtkeclanbebiogaaWAssignForecast
import Derived.OpenShut
import Derived.Outline
namespace Go.Proofs.Ytkeclanbebiogaa
open Go Go.RowKit Go.OpenShut
set_option linter.unusedVariables false
set_option linter.unusedSimpArgs false
set_option maxRecDepth 100000

theorem u16_of {x : Int} (h : (Lit.int .u16 x).wf = true) : 0 ≤ x ∧ x ≤ 65535 := by
  simp [Lit.wf, IntKind.min, IntKind.max, IntKind.signed, IntKind.bits] at h
  omega
theorem src_amt (w : World) (x : Int) : (0 < 1 → ∃ ad, some (⟨w.heap.size, 0, none⟩ : Addr) = some ad ∧ ∀ j u, [Value.int .u64 x][j]? = some u → (w.alloc (.cells #[.int .u64 x] 35)).cell? (ad.add j) = some u) ∧ ∀ u ∈ [Value.int .u64 x], u.oneCell' = true := by
  refine ⟨fun _ => ⟨_, rfl, fun j u hj => ?_⟩, fun u hu => by simp at hu; subst hu; rfl⟩
  rw [add_plain, Nat.zero_add, (Blk.new w 35 #[.int .u64 x]).cell]
  simpa using hj
/-- The law's lanes, its meter and its list of weights, as far as k. -/
def Made (w wr : World) (b m : Nat) (z : List Int) (k : Nat) (a : Option Addr) (c : Nat) : Prop :=
  ∃ S, Pr w wr b m 30 S [] (ixs 0 k) 0 0 ∧ wr.ownsRow (m + 1) 35 1 (.slice a k c) k (wide z k) ∧ ∀ g, (Value.slice a k c).ownBlock = some g → ¬ S g
theorem Made.app {w wr w3 : World} {b m k c : Nat} {z : List Int} {a a' : Option Addr} {c' : Nat} {x : Int} (h : Made w wr b m z k a c) (hk : k < z.length) (hx : z.getD k 0 = x) (ho : w3.ownsRow (m + 1) 35 1 (.slice a' (k + 1) c') (k + 1) (wide z k ++ [.int .u64 x])) (hg : (wr.alloc (.cells #[.int .u64 x] 35)).grownBy w3 (Value.slice a k c).ownBlock)
    (ha : (Value.slice a' (k + 1) c').ownBlock = (Value.slice a k c).ownBlock ∨ (Value.slice a' (k + 1) c').ownBlock = some (wr.heap.size + 1)) (h30 : k < 30) :
    Calls Try.prog 27 #[.pointer (some ⟨b, 0, none⟩), .int .i64 1, .int .i64 k] w3 fun e w' => e = .returned (.int .i64 0) ∧ Made w w' b m z (k + 1) a' c' := by
  obtain ⟨S, p, o, n⟩ := h
  have o1 := o.alloc (.cells #[.int .u64 x] 35)
  have p1 := p.alloc (.cells #[.int .u64 x] 35)
  have hK : Kept (fun i => some i = (Value.slice a k c).ownBlock) (wr.alloc (.cells #[.int .u64 x] 35)) w3 := Kept.of_grown hg (fun i e => e)
  have hlt : ∀ i, some i = (Value.slice a k c).ownBlock → m + 1 ≤ i := fun i e => (o.lt i (Eq.symm e)).1
  have p2 := p1.kept hK (fun i hi e => n i (Eq.symm e) hi) (fun e => by have := hlt m e; omega) (fun i e => by have := hlt i e; have := p.2.2.2.2.1; omega)
  have n2 : ∀ g, (Value.slice a' (k + 1) c').ownBlock = some g → ¬ S g := fun g hg' => by
    rcases ha with ha | ha
    · exact n g (ha ▸ hg')
    · rw [ha] at hg'
      injection hg' with hg'
      exact fun hs => by have := p.1.lt g hs; omega
  have hp := p2.push 1 (k : Int)
  rw [show errP 30 [] (ixs 0 k) 1 = 0 by simp [errP, ixs_len, h30], pushF_one, pushV_one, ixs_len, if_pos (by omega), ixs_snoc] at hp
  refine hp.mono ?_
  rintro e w' ⟨he, S', p3, g3⟩
  refine ⟨he, S', p3.out, ?_, fun g hg' => ?_⟩
  · rw [wide_succ hk, hx]
    exact owns_kept ho g3.out.1 n2
  · exact fun hs => (g3.out.2 g hs).elim (n2 g hg') (fun e => by have := (ho.lt g hg').2; omega)
set_option maxHeartbeats 6400000 in
theorem walk_AssignTrue (a0 : Int) (a1 : Option Addr) (len1 cap1 : Nat) (z1 : List Int) (w : World) (w0 : (Lit.int .u16 a0).wf = true) (w1 : IsRow .u16 w a1 len1 cap1 z1) :
    Calls Try.prog 8 #[.int .u16 a0, .slice a1 len1 cap1] w fun e w' => e = .returned (.bool true) ∧ Below w.heap.size w w' := by
  obtain ⟨j0, hj0, hz0, hz1, hz2⟩ := u64_info
  obtain ⟨l0, l1⟩ := u16_of w0
  obtain ⟨_, hl, _, hlz⟩ := w1.len_le
  have R := Lib.hid (Rd.of_row w1)
  have hzr : ∀ j, 0 ≤ (z1.take len1).getD j 0 ∧ (z1.take len1).getD j 0 ≤ 65535 := fun j => by
    rcases Nat.lt_or_ge j len1 with hj | hj
    · obtain ⟨b, off, e, hb, hc⟩ := R.out (by omega)
      have := u16_of (hc j hj).2
      rwa [show (z1.take len1).getD j 0 = z1.getD j 0 by simp [List.getD_eq_getElem?_getD, List.getElem?_take_of_lt hj]]
    · rw [List.getD_eq_getElem?_getD, List.getElem?_eq_none (by simp; omega)]
      exact ⟨Int.le_refl 0, show (0 : Int) ≤ 65535 by decide⟩
  have hzl : (z1.take len1).length = len1 := by simp; omega
  have hrd : ∀ k, k < len1 → ∃ b off, a1 = some ⟨b, off, none⟩ ∧ b < w.heap.size ∧ w.cell? ⟨b, off + k, none⟩ = some (.int .u16 ((z1.take len1).getD k 0)) := fun k hk => by
    obtain ⟨b, off, e, hb, hc⟩ := R.out (by omega)
    exact ⟨b, off, e, hb, by rw [(hc k hk).1]; simp [List.getD_eq_getElem?_getD, List.getElem?_take_of_lt hk]⟩
  generalize z1.take len1 = z at *
  have HR := Lib.hid hrd
  have HZ := Lib.hid hzr
  have HLN := Lib.hid hzl
  have HN := Lib.hid (fun w => new_some 30 w (by omega) (by omega))
  clear w0 w1 R hzr hzl hrd hlz
  by_cases h30 : (30 : Int) < (len1 : Int)
  · go_enter Try.func8, Try.ntmps8
    go_wp2_with fail
    refine (alive_any _).mono ?_
    rintro e w1 ⟨rfl, hb⟩
    have HB := Lib.hid hb
    clear hb
    go_wp2_with fail
    go_ret
    exact ⟨rfl, HB.out⟩
  · go_enter Try.func8, Try.ntmps8
    go_wp2_with fail
    refine (HN.out _).mono ?_
    rintro e w2 ⟨rfl, ⟨S1, q1, q2⟩, q3⟩
    have Q := Lib.hid (And.intro q1 (And.intro q2 q3))
    clear q1 q2 q3 HN
    go_wp2_with fail
    refine (new_at _).mono ?_
    rintro e w3 ⟨rfl, m1, m2, m3⟩
    have M0 : Hid (Made w w3 w.heap.size w2.heap.size z 0 none 0) := Lib.hid ⟨S1, by rw [ixs_nil]; exact pr_new Q.out.1 Q.out.2.1 Q.out.2.2 m1 m2, World.ownsRow_nil _ _ _ _, fun g hg => by cases hg⟩
    clear m1 m2 m3 Q
    go_wp2_with fail
    generalize hb : w.heap.size = b at *
    have HB := Lib.hid hb
    clear hb
    generalize w2.heap.size = m at *
    go_loopw [7, 29] (fun s7 s29 wr => ∃ (k : Nat) (a : Option Addr) (c : Nat), k ≤ len1 ∧ s29 = .int .i64 k ∧ s7 = .slice a k c ∧ Hid (Made w wr b m z k a c)) (fun _ s29 _ => len1 - (intOf s29).toNat)
    case atStart => exact ⟨0, none, 0, by omega, rfl, rfl, M0⟩
    case round =>
      clear M0
      obtain ⟨k, a, c, hk, rfl, rfl, HM⟩ := hrel
      by_cases hlt : k < len1
      · obtain ⟨rb, off, rfl, hrb, hc⟩ := HR.out k hlt
        have hcell : wr.cell? ⟨rb, off + k, none⟩ = some (.int .u16 (z.getD k 0)) := by
          obtain ⟨S, p, _⟩ := HM.out
          exact (p.2.2.2.2.2.cell (p := ⟨rb, off + k, none⟩) (by rw [HB.out]; exact hrb)).trans hc
        obtain ⟨x0, x1⟩ := HZ.out k
        obtain ⟨x, hx⟩ : ∃ x, z.getD k 0 = x := ⟨_, rfl⟩
        rw [hx] at hcell x0 x1
        have HX := Lib.hid hx
        have HO3 : Hid ((wr.alloc (.cells #[.int .u64 x] 35)).ownsRow (m + 1) 35 1 (.slice a k c) k (wide z k) ∧ m + 1 ≤ wr.heap.size) := Lib.hid (by
          obtain ⟨S, p, o, _⟩ := HM.out
          exact ⟨o.alloc _, p.mlt⟩)
        have HS1 := Lib.hid (src_amt wr x)
        clear hc hx
        go_wp2_with (at_builtin; refine wpList_append_src _ rfl (.tmp 34) (.tmp 37) 23 rfl (m + 1) 35 j0 (.int .u64 0) 1 8 Try.underlying23 hj0 hz0 hz1 hz2 rfl (by decide) (.slice a k c) k (wide z k) rfl HO3.out.1 (some ⟨wr.heap.size, 0, none⟩) 1 1 [.int .u64 x] rfl rfl HS1.out.1 HS1.out.2 (by unfold maxLen; omega) (by omega) (by have := HO3.out.2; simp; omega) ?_)
        intro v' w4 ho4 hg4 ha4
        obtain ⟨a4, c4, rfl⟩ := owns_slice'' ho4
        have hp4 := HM.out.app (by rw [HLN.out]; exact hlt) HX.out ho4 hg4 (by simpa using ha4) (by omega)
        have HP4 := Lib.hid hp4
        clear ho4 hg4 ha4 hp4 HO3 HS1 HM HX hcell
        go_wp2_with fail
        refine HP4.out.mono ?_
        rintro e w5 ⟨rfl, hm5⟩
        have HM5 := Lib.hid hm5
        clear hm5 HP4
        go_wp2_with fail
        go_roundw
        case rel => exact ⟨k + 1, a4, c4, by omega, by go_num, rfl, HM5⟩
        case measure => simp [intOf]; omega
      · obtain rfl : k = len1 := by omega
        clear hlt
        have hlt : ¬ k < k := by omega
        obtain ⟨S, hp, ho, hown⟩ := HM.out
        have hmS := hp.mlt
        rw [wide, List.take_of_length_le (by rw [HLN.out]; exact Nat.le_refl _)] at ho
        obtain ⟨a', c', e1, e2, e3, hu⟩ := amts_of_owns (S := fun i => i = m ∨ S i) ho (fun i hi e => e.elim (fun e => by have := (ho.lt i hi).1; omega) (hown i hi))
        injection e1 with e1 _ e4
        subst e1 e4
        have HP := Lib.hid hp
        have HU := Lib.hid hu
        have hA : Amts z := fun j => ⟨(HZ.out j).1, by have := (HZ.out j).2; omega⟩
        have HA := Lib.hid hA
        have H1 := Lib.hid (forecast_any (bal := 0) (lim := a0) (cap := c) hu hA (by rw [e2]; omega) (by decide) (by decide) l0 (by omega))
        rw [e2] at H1
        clear hp ho hown hu e2 e3 hA HM hmS HR
        go_wp2_with fail
        refine H1.out.mono ?_
        rintro e w5 ⟨ag, cg, G, rfl, hG, og, bg⟩
        have ogo := og.out
        rw [HLN.out] at hG ogo ⊢
        obtain ⟨ag', cg', eg, _, hgc, hgm, ig⟩ := ints_of_owns (S := fun i => i < wr.heap.size) ogo (fun i hi e => by have := (ogo.lt i hi).1; have : i < _ := e; omega)
        injection eg with eg1 _ eg2
        subst eg1 eg2
        have HG := Lib.hid hG
        have I5 : Hid (IntsAt w5 (fun i => i = m ∨ S i) ag G) := Lib.hid (ig.other (fun i _ e => e.elim (fun e => by have := HP.out.mlt; omega) (fun e => HP.out.1.lt i e)))
        have U5 := Lib.hid (HU.out.below bg)
        have P5 := Lib.hid (HP.out.below bg)
        clear ogo og ig hG bg hgc hgm H1 HU HP
        go_wp2_with fail
        go_loopw [11, 12] (fun s11 s12 wi => ∃ (j p : Nat) (S : Nat → Prop) (B Sp : Int), 1 ≤ j ∧ j ≤ 201 ∧ p ≤ k ∧ s11 = .int .i64 p ∧ s12 = .int .i64 j ∧ Hid (Pr w wi b m 30 S [] (ixs p k) B Sp) ∧ Hid ((p < k → B = ((j : Int) - 1) * a0 - sumTo z p ∧ Stuck 0 a0 z j p) ∧ (p = k → B = 0)) ∧ Hid (UAt wi (fun i => i = m ∨ S i) a z) ∧ Hid (IntsAt wi (fun i => i = m ∨ S i) ag G)) (fun _ s12 _ => 201 - (intOf s12).toNat)
        case atStart => exact ⟨1, 0, S, 0, 0, by omega, by omega, by omega, rfl, rfl, P5, Lib.hid ⟨fun _ => ⟨by show (0 : Int) = (1 - 1) * a0 - 0; omega, .inl rfl⟩, fun _ => rfl⟩, U5, I5⟩
        case round =>
          clear P5 U5 I5
          obtain ⟨j, p, S, B, Sp, hj1, hj2, hpk, rfl, rfl, HP, HF, HU, HI⟩ := hrel
          have hzz : ∀ i, 0 ≤ z.getD i 0 := fun i => (HZ.out i).1
          by_cases h200 : (j : Int) ≤ 200
          · have hB := HP.out.bal
            have hBx : B + a0 ≤ 18446744073709551615 := by
              by_cases hpp : p < k
              · have h1 := (HF.out.1 hpp).1
                have h2 := mul_le l0 (show (j : Int) - 1 ≤ 200 by omega)
                have h3 := sumTo_nonneg hzz p
                omega
              · have h1 := HF.out.2 (by omega)
                omega
            have hv := vol_step (n := k) (p := p) (k := (j : Int)) HLN.out hpk hzz (by omega) l0 hB.1 (fun h => (HF.out.1 h).1) (fun h => (HF.out.1 h).2) hBx
            have hst := HP.out.step_new (x := a0) (ep := (j : Int)) (cap := c) HU.out (by rw [HLN.out]; omega) HA.out l0 (by omega) (by omega)
            rw [HLN.out] at hst
            have HST := Lib.hid hst
            have HV := Lib.hid hv
            clear hv hst hB hBx hzz
            generalize stp (wOf z) [] (ixs p k) B a0 = rr at *
            generalize gr B a0 = G0 at *
            go_wp2_with fail
            refine HST.out.mono ?_
            rintro e w7 ⟨a7, c7, S7, he, P7, G7, A7, K7⟩
            obtain ⟨q, v1, v2, v3, v4, v5, v6, v7, v8⟩ := HV.out
            obtain ⟨out, F7, V7, B7⟩ := rr
            dsimp only at v2 v3 v4 v5 v6 v7 v8
            change e = .returned (.slice a7 out.length c7) at he
            subst he v3 v4
            have P8 : Hid (Pr w w7 b m 30 S7 [] (ixs (p + q) k) (balOf (out, [], ixs (p + q) k, B7)) (G0 - B7)) := P7
            have A8 : Hid (AAt w7 (fun _ => False) a7 ((j : Int) + 1) out) := Lib.hid (A7.out.other (fun _ _ h => h.elim))
            have U8 : Hid (UAt w7 (fun i => i = m ∨ S7 i) a z) := Lib.hid (((HU.out.other (T := fun i => i = m ∨ S i ∨ S7 i) (fun i hi e => e.elim .inl (fun e => e.elim .inr (fun e => (G7.out i e).elim .inr (fun e => by omega))))).kept K7.out (fun i _ e => e.elim .inl (fun e => .inr (.inl e)))).other (fun i _ e => e.elim .inl (fun e => .inr (.inr e))))
            have I8 : Hid (IntsAt w7 (fun i => i = m ∨ S7 i) ag G) := Lib.hid (((HI.out.other (T := fun i => i = m ∨ S i ∨ S7 i) (fun i hi e => e.elim .inl (fun e => e.elim .inr (fun e => (G7.out i e).elim .inr (fun e => by omega))))).kept K7.out (fun i _ e => e.elim .inl (fun e => .inr (.inl e)))).other (fun i _ e => e.elim .inl (fun e => .inr (.inr e))))
            have VO := Lib.hid v5
            have VB := Lib.hid (And.intro v6 (And.intro v7 v8))
            rw [v2]
            have VL := Lib.hid v2
            clear HV HST P7 A7 G7 K7 HU HI HP v2 v5 v6 v7 v8 HF
            generalize balOf (out, [], ixs (p + q) k, B7) = bl at *
            obtain ⟨wo, hwo⟩ : ∃ wo, wo = wr := ⟨_, rfl⟩
            subst hwo
            go_wp2_with fail
            go_loopw [11, 65] (fun s11 s65 wi => ∃ i t : Nat, i ≤ q ∧ Hid (t = p + i) ∧ s65 = .int .i64 i ∧ s11 = .int .i64 t ∧ Hid (Below w7.heap.size w7 wi)) (fun _ s65 _ => q - (intOf s65).toNat)
            case atStart => exact ⟨0, p, by omega, Lib.hid rfl, rfl, rfl, Lib.hid (Below.refl _ _)⟩
            case round =>
              obtain ⟨i, t, hi, HT, rfl, rfl, HW⟩ := hrel
              by_cases hiq : i < q
              · have hp7 := VO.out i hiq
                obtain ⟨ab, ao, rfl, _, hab, hac⟩ := A8.out (by rw [VL.out]; omega)
                have R1 : Hid (wr.rangeAt ab (ao + i * 3) (rowT ((p + i : Nat) : Int) 1 ((j : Int) + 1))) := Lib.hid (fun n u hu => (HW.out.cell (p := ⟨ab, ao + i * 3 + n, none⟩) hab).trans (hac i _ hp7.1 n u hu))
                have ht : p + i = t := HT.out.symm
                have hG7 : G.getD t 0 = (j : Int) := by rw [← ht]; exact (HG.out.2 (p + i) (by omega)).at l0 hp7.2 (by omega)
                rw [ht] at R1
                have HW8 : Hid (Below w7.heap.size w7 (wr.alloc (.cells (cellsT (t : Int) 1 ((j : Int) + 1)) 51))) := Lib.hid (HW.out.alloc HW.out.size _)
                have y0 : (wr.alloc (.cells (cellsT (t : Int) 1 ((j : Int) + 1)) 51)).cell? ⟨wr.heap.size, 0, none⟩ = some (.int .i64 t) := (Blk.new wr _ (cellsT (t : Int) 1 ((j : Int) + 1))).cell 0
                obtain ⟨gb, go, rfl, _, hgb, hgc⟩ := I8.out (by rw [HG.out.1]; omega)
                have y1 : (wr.alloc (.cells (cellsT (t : Int) 1 ((j : Int) + 1)) 51)).cell? ⟨gb, go + t, none⟩ = some (.int .i64 j) := (HW8.out.cell (p := ⟨gb, go + t, none⟩) hgb).trans (by rw [← hG7]; exact hgc t (by rw [HG.out.1]; omega))
                have htk : t < k := by omega
                clear hp7 hac ht hG7 hgc HW
                go_wp2_with (first
                  | (refine wpList_load_mid rfl 51 _ rfl ab (ao + i * 3) rfl (rowT (t : Int) 1 ((j : Int) + 1)) _ R1.out Try.underlying51 rfl infoAs ?_)
                  | (refine wpList_store_row rfl _ _ _ rfl wr.heap.size (cellsT (t : Int) 1 ((j : Int) + 1)) rfl rfl 51 _ (heap_alloc_new wr _) infoAs rfl (cellsT_one _ _ _) ?_; rw [World.setRow_alloc_new]))
                go_roundw
                case rel => exact ⟨i + 1, t + 1, by omega, Lib.hid (by have := HT.out; omega), by go_num, by go_num, HW8⟩
                case measure => simp [intOf]; omega
              · obtain rfl : i = q := by omega
                clear hiq
                have hiq : ¬ i < i := by omega
                have P9 := Lib.hid (P8.out.below HW.out)
                have U9 := Lib.hid (U8.out.below HW.out)
                have I9 := Lib.hid (I8.out.below HW.out)
                obtain rfl : t = p + i := HT.out
                have HF9 : Hid ((p + i < k → bl = (((j + 1 : Nat) : Int) - 1) * a0 - sumTo z (p + i) ∧ Stuck 0 a0 z ((j + 1 : Nat) : Int) (p + i)) ∧ (p + i = k → bl = 0)) := Lib.hid (by
                  rw [show (((j + 1 : Nat) : Int) - 1) = j by omega, show ((j + 1 : Nat) : Int) = (j : Int) + 1 by omega]
                  exact VB.out.2)
                clear HW P8 U8 I8 A8 VO VB VL HT
                go_wp2_with fail
                go_roundw
                case rel => exact ⟨j + 1, p + i, S7, bl, G0 - B7, by omega, by omega, by omega, rfl, by go_num, P9, HF9, U9, I9⟩
                case measure => simp [intOf]; omega
          · obtain rfl : j = 201 := by omega
            have HLATE : Hid (p = k ∨ (p < k ∧ (G.getD p 0 = -1 ∨ 200 < G.getD p 0))) := Lib.hid (by
              rcases Nat.lt_or_ge p k with h | h
              · refine .inr ⟨h, (HG.out.2 p h).late l0 ?_⟩
                rcases (HF.out.1 h).2 with h1 | h1
                · simp at h1
                · simpa using h1
              · exact .inl (by omega))
            have HGB : Hid (∀ i, i < k → -1 ≤ G.getD i 0 ∧ G.getD i 0 ≤ 2147483648) := Lib.hid (fun i hi => (HG.out.2 i hi).bound)
            have BP : Hid (Below w.heap.size w wr) := Lib.hid HP.out.2.2.2.2.2
            have HGL := Lib.hid HG.out.1
            clear HF HP HU
            go_wp2_with fail
            refine (alive_any _).mono ?_
            rintro e w7 ⟨rfl, hb⟩
            have I7 := Lib.hid (HI.out.below hb)
            have B7 := Lib.hid (BP.out.trans (hb.mono BP.out.size))
            clear hb HI BP
            rcases HLATE.out with rfl | ⟨hpk2, hv⟩
            · go_wp2_with fail
              refine (step_nil_l _ _ _ _ _).mono ?_
              rintro e w8 ⟨rfl, rfl⟩
              go_wp2_with fail
              refine (step_nil_m _ _ _ _ _).mono ?_
              rintro e w8 ⟨rfl, rfl⟩
              go_wp2_with fail
              go_ret
              exact ⟨rfl, B7.out⟩
            · obtain ⟨gb, go, rfl, _, hgb, hgc⟩ := I7.out (by rw [HGL.out]; omega)
              have y1 := hgc p (by rw [HGL.out]; exact hpk2)
              have hvb := HGB.out p hpk2
              have hpk3 : ¬ p = k := by omega
              have hpk4 : ((p : Int) == (k : Int)) = false := by simp; omega
              generalize G.getD p 0 = v at *
              obtain ⟨v0, v1⟩ := hvb
              have HV := Lib.hid hv
              clear hgc hv HLATE
              by_cases hvv : (200 : Int) < v
              · go_wp2_with fail
                refine (step_nil_l _ _ _ _ _).mono ?_
                rintro e w8 ⟨rfl, rfl⟩
                go_wp2_with fail
                refine (step_nil_m _ _ _ _ _).mono ?_
                rintro e w8 ⟨rfl, rfl⟩
                go_wp2_with fail
                go_ret
                exact ⟨rfl, B7.out⟩
              · obtain rfl : v = -1 := by have := HV.out; omega
                have hd : decide ((200 : Int) < -1) = false := by decide
                go_wp2_with fail
                refine (step_nil_l _ _ _ _ _).mono ?_
                rintro e w8 ⟨rfl, rfl⟩
                go_wp2_with fail
                refine (step_nil_m _ _ _ _ _).mono ?_
                rintro e w8 ⟨rfl, rfl⟩
                go_wp2_with fail
                go_ret
                exact ⟨rfl, B7.out⟩
end Go.Proofs.Ytkeclanbebiogaa
