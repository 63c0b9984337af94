/- The walk of DeadlineSweeps. -/
import Derived.Test.YtjleklhajmhekaaLaw
import Derived.Test.YtjleklhajmhekaaSwp
import Derived.Deep.Cut
namespace Go.Proofs.Ytjleklhajmhekaa
open Go Go.RowKit Go.Deep
set_option linter.unusedVariables false
set_option linter.unusedSimpArgs false
set_option maxRecDepth 100000

theorem Keeps.side {w0 w w' : World} {b t g : Nat} {cs : Array Value} (h : Keeps w0.heap.size b t cs w0 w) (k : Kept (fun i => i = g) w w') (hb : b ≠ g) (hg : w0.heap.size ≤ g) : Keeps w0.heap.size b t cs w0 w' :=
  ⟨Blk.kept h.1 k hb, Kept.below h.2.1 k (fun i hi => by rw [hi]; exact hg) h.2.2, Nat.le_trans h.2.2 k.size⟩
theorem Keeps.next {B b t : Nat} {cs : Array Value} {w0 w w' : World} (hk : Keeps B b t cs w0 w) (hb : Below w.heap.size w w') : Keeps B b t cs w0 w' :=
  ⟨hk.1.below hb hk.1.lt, hk.2.1.trans (hb.mono hk.2.2), Nat.le_trans hk.2.2 hb.size⟩
/-- Behind the last block of the last epoch, all have been visited. -/
theorem swept {c : Nat → Int} (hg : Good c) {bk sn per : Nat} (hp : perBlock c = per) (hi : c 0 ≤ sn ∨ bk * per ≤ sn) (hq : ¬ (bk : Int) / c 13 ≤ sweepN c) : c 0 ≤ sn := by
  rcases hi with h | h
  · exact h
  · have hl := hg.len0
    have h1 := blocks_cover hg
    have h2 : sweepN c + 1 ≤ (bk : Int) / c 13 := by omega
    have h3 : (sweepN c + 1) * c 13 ≤ bk := by
      have := Int.mul_le_mul_of_nonneg_right h2 (show 0 ≤ c 13 by omega)
      have h4 := Int.mul_ediv_add_emod (bk : Int) (c 13)
      have h5 := Int.emod_nonneg (bk : Int) (show c 13 ≠ 0 by omega)
      rw [Int.mul_comm] at h4
      omega
    have h4 : blocks c ≤ bk := by
      have h5 := Int.mul_ediv_add_emod (blocks c - 1) (c 13)
      have h6 := Int.emod_lt_of_pos (blocks c - 1) (show 0 < c 13 by omega)
      have h7 : (blocks c - 1) / c 13 = sweepN c := rfl
      rw [h7, Int.mul_comm] at h5
      rw [Int.add_mul] at h3
      omega
    rw [hp] at h1
    have h5 : blocks c * (per : Int) ≤ (bk : Int) * (per : Int) := Int.mul_le_mul_of_nonneg_right h4 (by omega)
    have h6 : ((bk * per : Nat) : Int) = (bk : Int) * (per : Int) := by rw [Int.natCast_mul]
    omega
/-- A block within the epochs of the sweep is one of not too many. -/
theorem early {c : Nat → Int} (hg : Good c) {bk : Nat} (hq : (bk : Int) / c 13 ≤ sweepN c) : (bk : Int) < (sweepN c + 1) * c 13 := by
  have hl := hg.len0
  have h4 := Int.mul_ediv_add_emod (bk : Int) (c 13)
  have h5 := Int.emod_lt_of_pos (bk : Int) (show 0 < c 13 by omega)
  rw [Int.mul_comm] at h4
  have h6 := Int.mul_le_mul_of_nonneg_right hq (show 0 ≤ c 13 by omega)
  rw [Int.add_mul]
  omega
theorem most_blocks {c : Nat → Int} (hg : Good c) : (sweepN c + 1) * c 13 ≤ 16777216 := by
  have h1 := sweepN_bd hg
  have h2 := hg.len1
  have h3 := hg.len0
  have : (sweepN c + 1) * c 13 ≤ 4096 * 4096 := Int.mul_le_mul (by omega) h2 (by omega) (by omega)
  omega
theorem stop_ge {L : List Bool} {s m : Nat} {v p : Int} (h : Stop L s v p m) : L.length ≤ m ∨ min v p ≤ (m : Int) := by
  have := paidN_len L s m
  rcases h.1 with h | h | h <;> omega

set_option maxHeartbeats 12800000 in
theorem walk_DeadlineSweeps (a0 : Int) (a1 : Option Addr) (len1 cap1 : Nat) (a2 : Nat → Int) (w : World) (w0 : (Lit.int .u16 a0).wf = true) (w1 : IsBools w a1 len1 cap1) (w2 : Fits a2) :
    Calls Try.prog 7 #[.int .u16 a0, .slice a1 len1 cap1, .agg (cellsOf a2)] w fun e w' => e = .returned (.bool true) ∧ Below w.heap.size w w' := by
  obtain ⟨L, hL, l1, l2, hB⟩ := w1
  have hl : len1 ≤ 9223372036854775807 := by unfold maxLen at l2; omega
  have HL := Lib.hid hL
  have HB := Lib.hid hB
  clear l1 l2 hL hB
  have HK := Lib.hid (fun w => refCheck_any a2 w)
  have HV := Lib.hid alive_any
  have K0 : Hid (Keeps w.heap.size w.heap.size 26 (cellsOf a2) w (w.alloc (.cells (cellsOf a2) 26))) := Lib.hid (Keeps.new (Below.refl _ _) (Nat.le_refl _))
  by_cases hc : chk a2 = 0
  · have G := good_of_chk w2 hc
    rw [hc] at HK
    by_cases hcap : a2 0 ≤ 100
    · by_cases hlen : len1 ≤ 1000
      · obtain ⟨n, hn⟩ : ∃ n : Nat, a2 0 = n := ⟨(a2 0).toNat, by have := G.cap0; omega⟩
        have n1 : 1 ≤ n ∧ n ≤ 100 := by have := G.cap0; omega
        obtain ⟨s0, rfl⟩ : ∃ s0 : Nat, a0 = s0 := ⟨a0.toNat, by
          simp [Lit.wf, IntKind.min, IntKind.max, IntKind.signed, IntKind.bits] at w0
          omega⟩
        have s1 : s0 ≤ 65535 := by
          simp [Lit.wf, IntKind.min, IntKind.max, IntKind.signed, IntKind.bits] at w0
          omega
        obtain ⟨per, hper⟩ : ∃ per : Nat, perBlock a2 = per := ⟨(perBlock a2).toNat, by have := perBlock_bd G; omega⟩
        have per1 : 1 ≤ per ∧ per ≤ 4096 := by have := perBlock_bd G; omega
        have hpm : min (a2 14 - a2 16) (a2 15 - a2 16) = (per : Int) := hper
        have HPM := Lib.hid hpm
        obtain ⟨mx, hmx⟩ : ∃ mx : Nat, (sweepN a2 + 1) * a2 13 = mx := ⟨((sweepN a2 + 1) * a2 13).toNat, by
          have := Int.mul_nonneg (show 0 ≤ sweepN a2 + 1 by have := sweepN_bd G; omega) (show 0 ≤ a2 13 by have := G.len0; omega)
          omega⟩
        have mx1 : mx ≤ 16777216 := by have := most_blocks G; omega
        have HE := Lib.hid (fun (bk : Nat) (h : (bk : Int) / a2 13 ≤ sweepN a2) => early G h)
        rw [hmx] at HE
        have HW := Lib.hid (fun (bk sn : Nat) (hi : a2 0 ≤ sn ∨ bk * per ≤ sn) (hq : ¬ (bk : Int) / a2 13 ≤ sweepN a2) => swept G hper hi hq)
        rw [hn] at HW
        have HS := Lib.hid (fun w => sweep_any a2 G w)
        have gv := G.vis0
        have gp := G.pay0
        have gv1 := G.vis1
        have gp1 := G.pay1
        have gz := G.part
        have gl := G.len0
        have gl1 := G.len1
        have hz : (a2 13 == 0) = false := by simp; omega
        have hzn : ((n : Int) == 0) = false := by simp; omega
        have d0 : decide ((100 : Int) < (n : Int)) = false := decide_eq_false (by omega)
        have d1 : decide ((1000 : Int) < (len1 : Int)) = false := decide_eq_false (by omega)
        have hs0 : (s0 : Int) % (n : Int) = ((s0 % n : Nat) : Int) := by rw [Int.natCast_emod]
        have HS0 := Lib.hid hs0
        have ha0 : s0 % n < n := Nat.mod_lt _ (by omega)
        have hX0 : ∀ w', Blk w' w.heap.size 26 (cellsOf a2) → w'.cell? ⟨w.heap.size, 0, none⟩ = some (.int .i64 (n : Int)) := fun w' h => by rw [← hn]; exact h.cell 0
        have HX0 := Lib.hid hX0
        clear w0 w2 hc G hcap hlen hper hmx hn hs0 hX0 hpm
        generalize sweepN a2 = sw at *
        go_enter Try.func7, Try.ntmps7
        go_wp2_with (first | (refine wpList_load_rowG rfl 26 _ rfl w.heap.size rfl 26 _ (0, 0) _ K0.out.1 Try.underlying26 rfl info24 ?_))
        refine (HK.out _).mono ?_
        rintro o w1 ⟨rfl, b1⟩
        have K1 := Lib.hid (K0.out.next b1)
        clear b1 K0 HK
        have x0 := HX0.out _ K1.out.1
        go_upto_region 4 with (fail)
        rw [HS0.out]
        generalize s0 % n = at0 at *
        clear d0 d1 x0 HS0 s1
        go_wp2_with (fail)
        go_loopw [7, 8, 9, 10] (fun s7 s8 s9 s10 wr => ∃ at1 sn us bk : Nat, s7 = .int .i64 at1 ∧ s8 = .int .i64 sn ∧ s9 = .int .i64 us ∧ s10 = .int .i64 bk ∧ at1 < n ∧ sn ≤ 200 ∧ us ≤ 100 * bk ∧ bk ≤ mx ∧ Hid ((n : Int) ≤ sn ∨ bk * per ≤ sn) ∧ Hid (Keeps w.heap.size w.heap.size 26 (cellsOf a2) w wr)) (fun _ _ _ s10 _ => mx - (intOf s10).toNat)
        case atStart => exact ⟨at0, 0, 0, 0, rfl, rfl, rfl, rfl, ha0, by omega, by omega, by omega, Lib.hid (.inr (by omega)), K1⟩
        case round =>
          obtain ⟨at1, sn, us, bk, rfl, rfl, rfl, rfl, hat, hsn, hus, hbk, HI, HC⟩ := hrel
          clear K1 ha0
          go_upto_region 7 with (fail)
          have hdv0 : 0 ≤ (bk : Int) / a2 13 := Int.ediv_nonneg (by omega) (by omega)
          have hdv1 : (bk : Int) / a2 13 ≤ (bk : Int) := Int.ediv_le_self _ (by omega)
          by_cases hq : (bk : Int) / a2 13 ≤ sw
          · by_cases hs : sn < n
            · have hb2 : bk < mx := by have := HE.out bk hq; omega
              refine wp_region_class (Keeps w.heap.size w.heap.size 26 (cellsOf a2) w) (by kernel_rfl) (by kernel_rfl) HC.out.drew ?_
              iterate 2 (go_big_quiet_step ((intros; rfl)))
              refine q_cell 3 _ ⟨w.heap.size, 13, none⟩ (.int .i64 (a2 13)) rfl rfl rfl (fun w h => by simp [go_sem, h]) (fun w h => h.1.cell 13) ?_
              simp only [Act.put, List.setIfInBounds_toArray, List.set_cons_zero, List.set_cons_succ]
              refine q_val (.int .i64 ((bk : Int) / a2 13)) rfl (fun _ => by go_simp; rw [if_neg (by omega)]; (try rw [Int.tdiv_eq_ediv_of_nonneg (by omega)]); rw [IntWalk.i64_in _ (by omega)]) ?_
              simp only [Act.put, List.setIfInBounds_toArray, List.set_cons_zero, List.set_cons_succ]
              refine q_load 26 _ w.heap.size 26 (cellsOf a2) _ rfl rfl rfl (fun _ h => h.1) Try.underlying26 rfl info24 ?_
              simp only [Act.put, List.setIfInBounds_toArray, List.set_cons_zero, List.set_cons_succ]
              refine q_call (.int .i64 sw) #[.agg (cellsOf a2)] rfl (by kernel_rfl) Try.call18 (fun _ h => h.call (HS.out _)) ?_
              simp only [Act.put, List.setIfInBounds_toArray, List.set_cons_zero, List.set_cons_succ]
              refine q_val (.bool true) rfl (fun _ => by first | (go_simp; done) | (go_simp; simpa using hq)) ?_
              simp only [Act.put, List.setIfInBounds_toArray, List.set_cons_zero, List.set_cons_succ]
              iterate 1 (go_big_quiet_step ((intros; rfl)))
              iterate 2 (go_big_quiet_step ((intros; rfl)))
              refine q_cell 3 _ ⟨w.heap.size, 0, none⟩ (.int .i64 (n : Int)) rfl rfl rfl (fun w h => by simp [go_sem, h]) (fun w h => HX0.out w h.1) ?_
              simp only [Act.put, List.setIfInBounds_toArray, List.set_cons_zero, List.set_cons_succ]
              refine q_val (.bool true) rfl (fun _ => by first | (go_simp; done) | (go_simp; simpa using hs)) ?_
              simp only [Act.put, List.setIfInBounds_toArray, List.set_cons_zero, List.set_cons_succ]
              iterate 1 (go_big_quiet_step ((intros; rfl)))
              refine wpQuiet_nil ?_
              intro w2 hk2
              have K2 := Lib.hid hk2
              clear hk2 HC
              have HJ : Hid (bk * per ≤ sn) := Lib.hid (HI.out.resolve_left (by omega))
              clear HI hq hdv0 hdv1
              have x0 := HX0.out _ K2.out.1
              have hmk := fun w => run_make_bools n (by omega) w
              have M1 : Hid (BlkB (w2.alloc (.cells (cellsB (List.replicate n false)) 4)) w2.heap.size (List.replicate n false)) := Lib.hid (Blk.new _ _ _)
              have K6 := Lib.hid (K2.out.alloc (.cells (cellsB (List.replicate n false)) 4))
              have B1 : Hid (Bools (w2.alloc (.cells (cellsB (List.replicate n false)) 4)) (fun i => i = w2.heap.size) a1 L) := Lib.hid (((HB.out.below K2.out.2.1).other (T := fun i => i = w2.heap.size) (fun i hi h => by omega)).below ((Below.refl _ w2).alloc (Nat.le_refl _) _))
              have HG : Hid (w.heap.size ≠ w2.heap.size ∧ w.heap.size ≤ w2.heap.size) := Lib.hid ⟨by have := K2.out.1.lt; omega, K2.out.2.2⟩
              clear K2
              go_wp2
              generalize w2.heap.size = h at *
              generalize w2.alloc (.cells (cellsB (List.replicate n false)) 4) = w6 at *
              go_loopw [9, 53] (fun s9 s53 wx => ∃ (i y : Nat) (N : List Bool), i ≤ n ∧ s53 = .int .i64 i ∧ s9 = .int .i64 y ∧ y ≤ 100 * bk + i ∧ Hid (N.length = n ∧ BlkB wx h N) ∧ Hid (Kept (fun i => i = h) w6 wx)) (fun _ s53 _ => n - (intOf s53).toNat)
              case atStart => exact ⟨0, us, List.replicate n false, by omega, rfl, rfl, by omega, Lib.hid ⟨by simp, M1.out⟩, Lib.hid (Kept.refl _ _)⟩
              case round =>
                obtain ⟨i, y, N, hi, rfl, rfl, hy, HNL, HKP⟩ := hrel
                clear M1 x0 hmk
                by_cases hin : i < n
                · have x1 : wr.cell? ⟨h, i, none⟩ = some (.bool (N.getD i false)) := HNL.out.2.cell (by rw [HNL.out.1]; exact hin)
                  have f1 := HNL.out.2.frozen i
                  by_cases hyl : y < len1
                  · obtain ⟨rb, ro, ha1, hrb, hrl, hrc⟩ := B1.out (by rw [HL.out]; omega)
                    obtain ⟨r, hr⟩ : ∃ r, L.getD y false = r := ⟨_, rfl⟩
                    have x2 : wr.cell? ⟨rb, ro + y, none⟩ = some (.bool r) := by
                      rw [← hr]
                      exact HKP.out.cell (p := ⟨rb, ro + y, none⟩) hrb (hrc y (by rw [HL.out]; omega))
                    have H2 : Hid ((N.set i r).length = n ∧ BlkB (wr.setCell ⟨h, i, none⟩ (.bool r)) h (N.set i r)) := Lib.hid ⟨by rw [List.length_set]; exact HNL.out.1, HNL.out.2.set i r⟩
                    have HK2 : Hid (Kept (fun i => i = h) w6 (wr.setCell ⟨h, i, none⟩ (.bool r))) := Lib.hid (HKP.out.setCell (p := ⟨h, i, none⟩) (.inl rfl) _)
                    subst ha1
                    clear hrc hr HKP HNL
                    go_wp2
                    go_roundw
                    case rel => exact ⟨i + 1, y + 1, N.set i r, by omega, by go_num, by go_num, by omega, H2, HK2⟩
                    case measure => simp [intOf]; omega
                  · have H2 : Hid ((N.set i false).length = n ∧ BlkB (wr.setCell ⟨h, i, none⟩ (.bool false)) h (N.set i false)) := Lib.hid ⟨by rw [List.length_set]; exact HNL.out.1, HNL.out.2.set i false⟩
                    have HK2 : Hid (Kept (fun i => i = h) w6 (wr.setCell ⟨h, i, none⟩ (.bool false))) := Lib.hid (HKP.out.setCell (p := ⟨h, i, none⟩) (.inl rfl) _)
                    have hd2 : decide (y < len1) = false := decide_eq_false hyl
                    clear HKP HNL
                    go_wp2
                    go_roundw
                    case rel => exact ⟨i + 1, y + 1, N.set i false, by omega, by go_num, by go_num, by omega, H2, HK2⟩
                    case measure => simp [intOf]; omega
                · have hni : n = i := by omega
                  subst hni
                  clear hin hi
                  have hin : ¬ n < n := by omega
                  have K7 := Lib.hid (K6.out.side HKP.out HG.out.1 HG.out.2)
                  have H7 := Lib.hid (rsweep_any at1 (some ⟨h, 0, none⟩) n N (a2 14 - a2 16) (a2 15 - a2 16) wr (by omega) (by rw [HNL.out.1]; omega) (HNL.out.2.bools (fun h => h)))
                  have HN := Lib.hid HNL.out.1
                  rw [HNL.out.1] at H7
                  have c14 : wr.cell? ⟨w.heap.size, 14, none⟩ = some (.int .i64 (a2 14)) := K7.out.1.cell 14
                  have c15 : wr.cell? ⟨w.heap.size, 15, none⟩ = some (.int .i64 (a2 15)) := K7.out.1.cell 15
                  have c16 : wr.cell? ⟨w.heap.size, 16, none⟩ = some (.int .i64 (a2 16)) := K7.out.1.cell 16
                  clear B1 HKP HNL K6
                  go_wp2_with fail
                  refine H7.out.mono ?_
                  rintro e w8 ⟨m, a8, cp8, rfl, hst, -, b8⟩
                  have K8 := Lib.hid (K7.out.next b8)
                  have hge := stop_ge hst
                  have hmn := hst.le
                  rw [HPM.out, HN.out] at hge
                  rw [HN.out] at hmn
                  rw [HN.out]
                  obtain ⟨at2, hat2⟩ : ∃ at2, posN n at1 m = at2 := ⟨_, rfl⟩
                  have hl2 : at2 < n := by
                    rw [← hat2]
                    unfold posN
                    split
                    · exact hat
                    · exact Nat.mod_lt _ (by omega)
                  rw [hat2]
                  have HI2 : Hid ((n : Int) ≤ ((sn + m : Nat) : Int) ∨ (bk + 1) * per ≤ sn + m) := Lib.hid (by
                    have := HJ.out
                    rw [Nat.add_mul, Nat.one_mul]
                    omega)
                  clear hst b8 H7 K7 c14 c15 c16 hge hat2 HJ
                  generalize (paidZ N at1 m).length = q8 at *
                  go_wp2
                  go_roundw
                  case rel => exact ⟨at2, sn + m, y, bk + 1, rfl, by go_num, rfl, by go_num, hl2, by omega, by omega, by omega, HI2, K8⟩
                  case measure => simp [intOf]; omega
            · refine wp_region_class (Keeps w.heap.size w.heap.size 26 (cellsOf a2) w) (by kernel_rfl) (by kernel_rfl) HC.out.drew ?_
              iterate 2 (go_big_quiet_step ((intros; rfl)))
              refine q_cell 3 _ ⟨w.heap.size, 13, none⟩ (.int .i64 (a2 13)) rfl rfl rfl (fun w h => by simp [go_sem, h]) (fun w h => h.1.cell 13) ?_
              simp only [Act.put, List.setIfInBounds_toArray, List.set_cons_zero, List.set_cons_succ]
              refine q_val (.int .i64 ((bk : Int) / a2 13)) rfl (fun _ => by go_simp; rw [if_neg (by omega)]; (try rw [Int.tdiv_eq_ediv_of_nonneg (by omega)]); rw [IntWalk.i64_in _ (by omega)]) ?_
              simp only [Act.put, List.setIfInBounds_toArray, List.set_cons_zero, List.set_cons_succ]
              refine q_load 26 _ w.heap.size 26 (cellsOf a2) _ rfl rfl rfl (fun _ h => h.1) Try.underlying26 rfl info24 ?_
              simp only [Act.put, List.setIfInBounds_toArray, List.set_cons_zero, List.set_cons_succ]
              refine q_call (.int .i64 sw) #[.agg (cellsOf a2)] rfl (by kernel_rfl) Try.call18 (fun _ h => h.call (HS.out _)) ?_
              simp only [Act.put, List.setIfInBounds_toArray, List.set_cons_zero, List.set_cons_succ]
              refine q_val (.bool true) rfl (fun _ => by first | (go_simp; done) | (go_simp; simpa using hq)) ?_
              simp only [Act.put, List.setIfInBounds_toArray, List.set_cons_zero, List.set_cons_succ]
              iterate 1 (go_big_quiet_step ((intros; rfl)))
              iterate 2 (go_big_quiet_step ((intros; rfl)))
              refine q_cell 3 _ ⟨w.heap.size, 0, none⟩ (.int .i64 (n : Int)) rfl rfl rfl (fun w h => by simp [go_sem, h]) (fun w h => HX0.out w h.1) ?_
              simp only [Act.put, List.setIfInBounds_toArray, List.set_cons_zero, List.set_cons_succ]
              refine q_val (.bool false) rfl (fun _ => by first | (go_simp; done) | (go_simp; simpa using hs)) ?_
              simp only [Act.put, List.setIfInBounds_toArray, List.set_cons_zero, List.set_cons_succ]
              iterate 1 (go_big_quiet_step ((intros; rfl)))
              refine wpQuiet_nil ?_
              intro w2 hk2
              have K2 := Lib.hid hk2
              clear hk2 HC
              have hfin : decide ((n : Int) ≤ (sn : Int)) = true := decide_eq_true (by omega)
              have hfin2 : decide (n ≤ sn) = true := by simpa using hfin
              clear HI HE HW HS HB HPM
              go_wp2_with (fail)
              refine (HV.out _).mono ?_
              rintro o w3 ⟨rfl, b3⟩
              have K3 := Lib.hid (K2.out.next b3)
              clear b3 K2 HV
              have x0 := HX0.out _ K3.out.1
              go_wp2
              go_ret
              exact ⟨rfl, K3.out.2.1⟩
          · refine wp_region_class (Keeps w.heap.size w.heap.size 26 (cellsOf a2) w) (by kernel_rfl) (by kernel_rfl) HC.out.drew ?_
            iterate 2 (go_big_quiet_step ((intros; rfl)))
            refine q_cell 3 _ ⟨w.heap.size, 13, none⟩ (.int .i64 (a2 13)) rfl rfl rfl (fun w h => by simp [go_sem, h]) (fun w h => h.1.cell 13) ?_
            simp only [Act.put, List.setIfInBounds_toArray, List.set_cons_zero, List.set_cons_succ]
            refine q_val (.int .i64 ((bk : Int) / a2 13)) rfl (fun _ => by go_simp; rw [if_neg (by omega)]; (try rw [Int.tdiv_eq_ediv_of_nonneg (by omega)]); rw [IntWalk.i64_in _ (by omega)]) ?_
            simp only [Act.put, List.setIfInBounds_toArray, List.set_cons_zero, List.set_cons_succ]
            refine q_load 26 _ w.heap.size 26 (cellsOf a2) _ rfl rfl rfl (fun _ h => h.1) Try.underlying26 rfl info24 ?_
            simp only [Act.put, List.setIfInBounds_toArray, List.set_cons_zero, List.set_cons_succ]
            refine q_call (.int .i64 sw) #[.agg (cellsOf a2)] rfl (by kernel_rfl) Try.call18 (fun _ h => h.call (HS.out _)) ?_
            simp only [Act.put, List.setIfInBounds_toArray, List.set_cons_zero, List.set_cons_succ]
            refine q_val (.bool false) rfl (fun _ => by first | (go_simp; done) | (go_simp; simpa using hq)) ?_
            simp only [Act.put, List.setIfInBounds_toArray, List.set_cons_zero, List.set_cons_succ]
            iterate 1 (go_big_quiet_step ((intros; rfl)))
            iterate 5 (go_big_quiet_step ((intros; rfl)))
            refine wpQuiet_nil ?_
            intro w2 hk2
            have K2 := Lib.hid hk2
            clear hk2 HC
            have hfin : decide ((n : Int) ≤ (sn : Int)) = true := decide_eq_true (by first | exact HW.out bk sn HI.out hq | exact HW.out bk sn HI.out (by omega))
            have hfin2 : decide (n ≤ sn) = true := by simpa using hfin
            clear HI HE HW HS HB HPM
            go_wp2_with (fail)
            refine (HV.out _).mono ?_
            rintro o w3 ⟨rfl, b3⟩
            have K3 := Lib.hid (K2.out.next b3)
            clear b3 K2 HV
            have x0 := HX0.out _ K3.out.1
            go_wp2
            go_ret
            exact ⟨rfl, K3.out.2.1⟩
      · have d0 : decide ((100 : Int) < a2 0) = false := decide_eq_false (by omega)
        have d1 : decide ((1000 : Int) < (len1 : Int)) = true := decide_eq_true (by omega)
        clear w0 w2 hc G
        go_enter Try.func7, Try.ntmps7
        go_wp2_with (first | (refine wpList_load_rowG rfl 26 _ rfl w.heap.size rfl 26 _ (0, 0) _ K0.out.1 Try.underlying26 rfl info24 ?_))
        refine (HK.out _).mono ?_
        rintro o w1 ⟨rfl, b1⟩
        have K1 := Lib.hid (K0.out.next b1)
        clear K0 b1 HK
        have x0 : w1.cell? ⟨w.heap.size, 0, none⟩ = some (.int .i64 (a2 0)) := K1.out.1.cell 0
        go_wp2_with (fail)
        refine (HV.out _).mono ?_
        rintro o w2 ⟨rfl, b2⟩
        have K2 := Lib.hid (K1.out.next b2)
        clear b2 x0 HV
        go_wp2
        go_ret
        exact ⟨rfl, K2.out.2.1⟩
    · have d0 : decide ((100 : Int) < a2 0) = true := decide_eq_true (by omega)
      clear w0 w2 hc G
      go_enter Try.func7, Try.ntmps7
      go_wp2_with (first | (refine wpList_load_rowG rfl 26 _ rfl w.heap.size rfl 26 _ (0, 0) _ K0.out.1 Try.underlying26 rfl info24 ?_))
      refine (HK.out _).mono ?_
      rintro o w1 ⟨rfl, b1⟩
      have K1 := Lib.hid (K0.out.next b1)
      clear K0 b1 HK
      have x0 : w1.cell? ⟨w.heap.size, 0, none⟩ = some (.int .i64 (a2 0)) := K1.out.1.cell 0
      go_wp2_with (fail)
      refine (HV.out _).mono ?_
      rintro o w2 ⟨rfl, b2⟩
      have K2 := Lib.hid (K1.out.next b2)
      clear b2 x0 HV
      go_wp2
      go_ret
      exact ⟨rfl, K2.out.2.1⟩
  · have hn : (chk a2 != 0) = true := by simpa using hc
    generalize chk a2 = x at *
    clear w0 w2 hc
    go_enter Try.func7, Try.ntmps7
    go_wp2_with (first | (refine wpList_load_rowG rfl 26 _ rfl w.heap.size rfl 26 _ (0, 0) _ K0.out.1 Try.underlying26 rfl info24 ?_))
    refine (HK.out _).mono ?_
    rintro o w1 ⟨rfl, b1⟩
    have K1 := Lib.hid (K0.out.next b1)
    clear K0 b1 HK
    have x0 : w1.cell? ⟨w.heap.size, 0, none⟩ = some (.int .i64 (a2 0)) := K1.out.1.cell 0
    go_wp2_with (fail)
    refine (HV.out _).mono ?_
    rintro o w2 ⟨rfl, b2⟩
    have K2 := Lib.hid (K1.out.next b2)
    clear b2 x0 HV
    go_wp2
    go_ret
    exact ⟨rfl, K2.out.2.1⟩
end Go.Proofs.Ytjleklhajmhekaa
